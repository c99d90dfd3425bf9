import PyProof.Rows.All
import Wide.All
import OpenK.AllK
import Wide.FinOn
import Lean
import PyProof.EqAt
import PyProof.EqKinds
import PyProof.TupleCall
import PyProof.NeKinds
import PyProof.EnumMake
import PyProof.Draws
import PyProof.P3Eq
import PyProof.NeData
import PyProof.ReprRoads
import PyProof.CallFns
import PyProof.SliceSyntax
import PyProof.AutoIntG2
import PyProof.SumWalk
import PyProof.ConsumeWalk
import PyProof.Rows.TupIter
import PyProof.DictRoadsH
import PyProof.DictWalks
import KE.KDictList
import KE.KNest
import PySem.Challenge.RW_contactnets_k65_whole_tables
set_option Elab.async false
set_option linter.all false
set_option genSizeOf false
set_option maxRecDepth 100000
set_option maxHeartbeats 1000000
namespace L2
open PySem PySem.Spec PyProof.Rows
noncomputable abbrev Key:=Sum Int Str
noncomputable def keyIs:Key→Value→Bool
 | .inl k,v=>Value.isInt k v
 | .inr x,v=>Value.isStrOf x v
noncomputable def keyH (w:World):Key→Int
 | .inl k=>hashInt k
 | .inr x=>hashStr w x
theorem keyIs_shape:∀ {k:Key}{v:Value},keyIs k v=true→(∃ i t,k=Sum.inl i∧v=Value.int i t)∨(∃ x t,k=Sum.inr x∧v=Value.str x t)
 | .inl i,v,h=>by
  obtain ⟨t,e⟩:=Value.isInt_shape (k:=i) (v:=v) h
  exact .inl ⟨i,t,rfl,e⟩
 | .inr x,v,h=>by
  obtain ⟨t,e⟩:=Value.isStrOf_shape (x:=x) (v:=v) h
  exact .inr ⟨x,t,rfl,e⟩
theorem keyIs_int (i:Int) (t:Tok):keyIs (.inl i) (.int i t)=true:=by simp [keyIs,Value.isInt]
theorem keyIs_str (x:Str) (t:Tok):keyIs (.inr x) (.str x t)=true:=by simp [keyIs,Value.isStrOf]
theorem key_ll (a b:Int):decide ((Sum.inl a:Key)=Sum.inl b)=(a == b):=by
 by_cases e:a=b
 ·subst e; simp
 ·have h:¬ (Sum.inl a:Key)=Sum.inl b:=fun q=>e (Sum.inl.inj q)
  rw [decide_eq_false h]
  exact (beq_eq_false_iff_ne.mpr e).symm
theorem key_rr (a b:Str):decide ((Sum.inr a:Key)=Sum.inr b)=decide (a=b):=by
 by_cases e:a=b
 ·subst e; simp
 ·have h:¬ (Sum.inr a:Key)=Sum.inr b:=fun q=>e (Sum.inr.inj q)
  rw [decide_eq_false h,decide_eq_false e]
theorem key_lr (a:Int) (b:Str):decide ((Sum.inl a:Key)=Sum.inr b)=false:=decide_eq_false (fun q=>nomatch q)
theorem key_rl (a:Str) (b:Int):decide ((Sum.inr a:Key)=Sum.inl b)=false:=decide_eq_false (fun q=>nomatch q)
noncomputable def mixKind (prog:Program) (w:World):PySem.KeyKind prog w Key where
 is:=keyIs
 hash:=keyH w
 inj:=fun v a b ha hb=>by
  rcases keyIs_shape ha with ⟨i,t,rfl,rfl⟩ | ⟨x,t,rfl,rfl⟩
  ·rcases keyIs_shape hb with ⟨j,u,rfl,e⟩ | ⟨y,u,rfl,e⟩
   ·injection e with e1 _; rw [e1]
   ·exact nomatch e
  ·rcases keyIs_shape hb with ⟨j,u,rfl,e⟩ | ⟨y,u,rfl,e⟩
   ·exact nomatch e
   ·injection e with e1 _; rw [e1]
 byValue:=fun k v h=>by
  rcases keyIs_shape h with ⟨i,t,rfl,rfl⟩ | ⟨x,t,rfl,rfl⟩ <;> rfl
 pyHash:=fun hv h=>by
  rcases keyIs_shape hv with ⟨i,t,rfl,rfl⟩ | ⟨x,t,rfl,rfl⟩
  ·exact wpAny_pyHash_int h
  ·exact wpAny_pyHash_str h
 eqBool:=fun hu hv h=>by
  rcases keyIs_shape hu with ⟨i,t,rfl,rfl⟩ | ⟨x,t,rfl,rfl⟩
  ·rcases keyIs_shape hv with ⟨j,u,rfl,rfl⟩ | ⟨y,u,rfl,rfl⟩
   ·rw [key_ll] at h; exact wpAny_eqBool_int h
   ·rw [key_lr] at h; exact SeqAt.EqAt.int_str i t y u _ _ _ _ h
  ·rcases keyIs_shape hv with ⟨j,u,rfl,rfl⟩ | ⟨y,u,rfl,rfl⟩
   ·rw [key_rl] at h; exact SeqAt.EqAt.str_int x t j u _ _ _ _ h
   ·rw [key_rr] at h; exact wpAny_eqBool_str h
 «strs»:=fun k x t v h=>by
  rcases keyIs_shape h with ⟨i,u,rfl,e⟩ | ⟨y,u,rfl,e⟩
  ·exact nomatch e
  ·injection e with e1 _
   subst e1
   cases v <;> rfl
theorem mixKind_int (prog:Program) (w:World) (i:Int) (t:Tok):(mixKind prog w).is (.inl i) (.int i t)=true:=keyIs_int i t
theorem mixKind_str (prog:Program) (w:World) (x:Str) (t:Tok):(mixKind prog w).is (.inr x) (.str x t)=true:=keyIs_str x t
inductive V where
 | non | bl (b:Bool) | int (i:Int) | str (x:Str) | byt (b:Array UInt8) | flt (b:UInt64) | ref (a:Addr) | ty (n:String)
 deriving DecidableEq
noncomputable def RelV:V→Value→Prop
 | .non,u=>u=Value.none
 | .bl b,u=>u=Value.bool b
 | .int i,u=>∃ t,u=Value.int i t
 | .str x,u=>∃ t,u=Value.str x t
 | .byt b,u=>∃ t,u=Value.bytes b t
 | .flt b,u=>∃ t,u=Value.float b t
 | .ref a,u=>u=Value.ref a
 | .ty n,u=>u=Value.type n
noncomputable abbrev Vals:List V→List Value→Prop:=Paired RelV
theorem Vals.length {xs:List V}{us:List Value} (r:Vals xs us):xs.length=us.length:=Paired.length r
theorem Vals.get:∀ {xs:List V}{us:List Value}{i:Nat}{x:V},Vals xs us→xs[i]?=some x→∃ u,us[i]?=some u∧RelV x u
 | _,_,_,_,.nil,e=>by simp at e
 | _,_,0,_,.cons r _,e=>by simp at e; subst e; exact ⟨_,rfl,r⟩
 | _,_,i+1,x,.cons _ t,e=>by
  obtain ⟨u,h1,h2⟩:=Vals.get (i:=i) (x:=x) t (by simpa using e)
  exact ⟨u,by simpa using h1,h2⟩
theorem Vals.set {x:V}{u:Value} (r:RelV x u):∀ {xs:List V}{us:List Value} (i:Nat),Vals xs us→Vals (xs.set i x) (us.set i u)
 | _,_,_,.nil=>.nil
 | _,_,0,.cons _ t=>.cons r t
 | _,_,i+1,.cons q t=>.cons q (Vals.set r i t)
theorem Vals.append:∀ {xs ys:List V}{us ws:List Value},Vals xs us→Vals ys ws→Vals (xs++ys) (us++ws)
 | _,_,_,_,.nil,s=>s
 | _,_,_,_,.cons r t,s=>.cons r (Vals.append t s)
theorem Vals.take:∀ {xs:List V}{us:List Value} (n:Nat),Vals xs us→Vals (xs.take n) (us.take n)
 | _,_,0,_=>.nil
 | _,_,_+1,.nil=>.nil
 | _,_,n+1,.cons r t=>.cons r (Vals.take n t)
theorem Vals.drop:∀ {xs:List V}{us:List Value} (n:Nat),Vals xs us→Vals (xs.drop n) (us.drop n)
 | _,_,0,r=>r
 | _,_,_+1,.nil=>.nil
 | _,_,n+1,.cons _ t=>Vals.drop n t
noncomputable def RelO:Option V→Option Value→Prop
 | some v,some u=>RelV v u
 | none,none=>True
 | _,_=>False
noncomputable def KV {κ:Type}:List (κ × V)→List (κ × Value)→Prop:=Paired fun (p:κ × V) (q:κ × Value)=>p.1=q.1∧RelV p.2 q.2
noncomputable def kV:Key→V
 | .inl i=>.int i
 | .inr x=>.str x
inductive HO where
 /-- a list -/
 | lst (xs:List V)
 /-- a tuple (never changes) -/
 | tup (xs:List V)
 /-- a dict whose keys are ints and texts; one whose keys are tuples of ints and texts (the empty one is both) -/
 | dK (kvs:List (Key × V)) | dT (kvs:List (List Key × V))
 /-- a set of ints: its members,its size -/
 | set (S:Int→Bool) (n:Nat)
 /-- an instance of the class at C,its dict at dx,its attributes -/
 | ins (C dx:Addr) (fs:List (Str × V))
 /-- the dict of the instance at x -/
 | own (x:Addr)
 /-- the dict of an exception -/
 | xd (fs:List (Str × V))
 /-- a bound method,f of x -/
 | met (f x:Addr)
 /-- a range object lo,lo+1,.. below hi -/
 | rng (lo hi:Int)
 /-- a thing that is known to the object (the script; a dict while a loop walks it): read,never written while it is so -/
 | frz (o:Obj) (u:HO)
 /-- a code object's table -/
 | tbl (ps:Array Value)
 /-- any other thing,by what is true of its one object (a def of one's own: SetO a S n:=HO.ext fun h=>..) -/
 | ext (φ:Heap→Prop)
noncomputable abbrev Hp:=Addr→Option HO
noncomputable def upd (H:Hp) (a:Addr) (o:HO):Hp:=fun b=>if b=a then some o else H b
theorem upd_same {H:Hp}{a:Addr}{o:HO}:upd H a o a=some o:=by unfold upd; rw [if_pos rfl]
theorem upd_ne {H:Hp}{a b:Addr}{o:HO} (h:b≠a):upd H a o b=H b:=by unfold upd; rw [if_neg h]
theorem ne_of {H:Hp}{a b:Addr}{o u:HO} (h:H a=some o) (h':H b=some u) (d:o≠u):a≠b:=by
 intro e; subst e; rw [h] at h'; exact d (Option.some.inj h')
theorem ne_of_none {H:Hp}{a b:Addr}{o:HO} (h:H a=some o) (h':H b=none):a≠b:=by
 intro e; subst e; rw [h] at h'; cases h'
section
variable (P:Program) (w:World)
noncomputable def ObjOk (H:Hp) (h:Heap) (a:Addr):HO→Prop
 | .lst xs=>xs.length≤sizeLine∧∃ (its:List Value) (n:Nat),Vals xs its∧h.get? a=some { cls:=.type "list",data:=.seq its.toArray n }
 | .tup xs=>xs.length≤sizeLine∧∃ its:List Value,Vals xs its∧IsTup h a its.toArray
 | .dK kvs=>kvs.length≤sizeLine∧(a == sysModules)=false∧∃ vs,KV kvs vs∧h.DictOf (mixKind P w) a vs
 | .dT kvs=>kvs.length≤sizeLine∧(a == sysModules)=false∧∃ xs:List (List Key × Addr × Value),
   Paired (fun (p:List Key × V) (q:List Key × Addr × Value)=>p.1=q.1∧H q.2.1=some (.tup (p.1.map kV))∧RelV p.2 q.2.2) kvs xs ∧
   ∃ o es ep,h.get? a=some o∧o.ExactDict∧o.data=.dict es ep∧es.toList=xs.map (entryOfKey (tupleKind (mixKind P w)))∧(xs.map (·.1)).Nodup
 | .set S n=>h.SetOf (intKind P w) a S n
 | .ins C dx fs=>H dx=some (.own a)∧fs.length≤1000∧dx≠a∧h.get? a=some (W.instObj C dx) ∧
   ∃ mA,h.Ns1 dx mA∧(∀ f,RelO (fs.lookup f) (mA f))∧PySem.Within mA (fs.map (·.1))
 | .own _=>∃ o,h.get? a=some o
 | .xd fs=>∃ mA,h.Ns1 a mA∧∀ f,RelO (fs.lookup f) (mA f)
 | .rng lo hi=>∃ t u v,h.get? a=some { cls:=.type "range",data:=.fields #[.int lo t,.int hi u,.int 1 v] }
 | .frz o u=>h.get? a=some o∧ObjOk H h a u
 | .tbl ps=>h.get? a=some { cls:=.none,data:=.fields ps }
 | .met f x=>h.get? a=some (W.methodObj (.ref f) (.ref x))
 | .ext φ=>φ h∧(∃ o,h.get? a=some o)∧∀ h1 h2:Heap,φ h1→(∀ o,h1.get? a=some o→h2.get? a=some o)→φ h2
def HOk (H:Hp) (h:Heap):Prop:=∀ a o,H a=some o→ObjOk P w H h a o
end
section
variable {P:Program}{w:World}{H H':Hp}{h h':Heap}{a:Addr}{o:HO}
theorem ObjOk.lt (x:ObjOk P w H h a o):a<h.objs.size:=by
 cases o with
 | lst xs=>obtain ⟨_,_,_,_,e⟩:=x; exact Heap.lt_size e
 | tup xs=>obtain ⟨_,_,_,p⟩:=x; exact p.lt
 | dK kvs=>obtain ⟨_,_,_,_,o,_,_,e,_⟩:=x; exact Heap.lt_size e
 | dT kvs=>obtain ⟨_,_,_,_,o,_,_,e,_⟩:=x; exact Heap.lt_size e
 | set S n=>obtain ⟨o,_,_,_,e,_⟩:=x; exact Heap.lt_size e
 | ins C dx fs=>obtain ⟨_,_,_,e,_⟩:=x; exact Heap.lt_size e
 | own y=>obtain ⟨_,e⟩:=x; exact Heap.lt_size e
 | xd fs=>obtain ⟨_,⟨_,_,_,e,_⟩,_⟩:=x; exact Heap.lt_size e
 | rng lo hi=>obtain ⟨_,_,_,e⟩:=x; exact Heap.lt_size e
 | frz ob u=>obtain ⟨e,_⟩:=x; exact Heap.lt_size e
 | tbl ps=>exact Heap.lt_size (show h.get? a=some _ from x)
 | met f y=>exact Heap.lt_size (show h.get? a=some _ from x)
 | ext φ=>obtain ⟨_,⟨_,e⟩,_⟩:=x; exact Heap.lt_size e
theorem Paired.mapP {α β:Type}{F G:α→β→Prop}:∀ {l₁:List α}{l₂:List β},Paired F l₁ l₂→(∀ a b,F a b→G a b)→Paired G l₁ l₂
 | _,_,.nil,_=>.nil
 | _,_,.cons r t,f=>.cons (f _ _ r) (Paired.mapP t f)
theorem ObjOk.stay (x:ObjOk P w H h a o) (k:∀ b u,(b=a∨H b=some (.own a))→h.get? b=some u→h'.get? b=some u)
  (ho:∀ b,H b=some (.own a)→H' b=some (.own a)) (ht:∀ b xs,H b=some (.tup xs)→H' b=some (.tup xs)):ObjOk P w H' h' a o:=by
 induction o with
 | lst xs=>obtain ⟨z,its,n,r,e⟩:=x; exact ⟨z,its,n,r,k _ _ (.inl rfl) e⟩
 | tup xs=>obtain ⟨z,its,r,ob,e,c⟩:=x; exact ⟨z,its,r,ob,k _ _ (.inl rfl) e,c⟩
 | dK kvs=>obtain ⟨z,y,vs,r,ob,es,ep,e,c⟩:=x; exact ⟨z,y,vs,r,ob,es,ep,k _ _ (.inl rfl) e,c⟩
 | dT kvs =>
  obtain ⟨z,y,xs,r,ob,es,ep,e,c⟩:=x
  exact ⟨z,y,xs,Paired.mapP r fun p q z=>⟨z.1,ht _ _ z.2.1,z.2.2⟩,ob,es,ep,k _ _ (.inl rfl) e,c⟩
 | set S n=>obtain ⟨ob,es,ep,t,e,c⟩:=x; exact ⟨ob,es,ep,t,k _ _ (.inl rfl) e,c⟩
 | ins C dx fs =>
  obtain ⟨d,z,ne,e,mA,⟨od,es,ep,e2,c⟩,r⟩:=x
  exact ⟨ho _ d,z,ne,k _ _ (.inl rfl) e,mA,⟨od,es,ep,k _ _ (.inr d) e2,c⟩,r⟩
 | own y=>obtain ⟨ob,e⟩:=x; exact ⟨ob,k _ _ (.inl rfl) e⟩
 | xd fs=>obtain ⟨mA,⟨od,es,ep,e,c⟩,r⟩:=x; exact ⟨mA,⟨od,es,ep,k _ _ (.inl rfl) e,c⟩,r⟩
 | rng lo hi=>obtain ⟨t,u,v,e⟩:=x; exact ⟨t,u,v,k _ _ (.inl rfl) e⟩
 | frz ob u ih=>obtain ⟨e,q⟩:=x; exact ⟨k _ _ (.inl rfl) e,ih q⟩
 | tbl ps =>
  have e:h.get? a=some { cls:=.none,data:=.fields ps }:=x
  show h'.get? a=some { cls:=.none,data:=.fields ps }
  exact k a _ (.inl rfl) e
 | met f y =>
  have e:h.get? a=some (W.methodObj (.ref f) (.ref y)):=x
  show h'.get? a=some (W.methodObj (.ref f) (.ref y))
  exact k a _ (.inl rfl) e
 | ext φ=>obtain ⟨p,⟨o,e⟩,st⟩:=x; exact ⟨st _ _ p fun o q=>k _ _ (.inl rfl) q,⟨o,k _ _ (.inl rfl) e⟩,st⟩
theorem HOk.lt (x:HOk P w H h) (e:H a=some o):a<h.objs.size:=(x a o e).lt
theorem HOk.fresh (x:HOk P w H h) (e:h.objs.size≤a):H a=none:=by
 cases q:H a with
 | none=>rfl
 | some u=>exact absurd (Nat.lt_of_lt_of_le (x.lt q) e) (Nat.lt_irrefl _)
theorem HOk.kept (x:HOk P w H h) (k:∀ b u,h.get? b=some u→h'.get? b=some u):HOk P w H h':=fun a o e =>
 (x a o e).stay (fun b u _ q=>k b u q) (fun _ q=>q) fun _ _ q=>q
theorem HOk.laid (x:HOk P w H h) (k:∀ b u,h.get? b=some u→h'.get? b=some u) (hp:h.objs.size≤a) (new:ObjOk P w (upd H a o) h' a o):HOk P w (upd H a o) h':=fun b u e=>by
 have hn:=x.fresh hp
 by_cases hb:b=a
 ·subst hb; rw [upd_same] at e; cases e; exact new
 ·rw [upd_ne hb] at e
  exact (x b u e).stay (fun c v _ q=>k c v q) (fun c q=>by rw [upd_ne (ne_of_none q hn)]; exact q) fun c xs q=>by rw [upd_ne (ne_of_none q hn)]; exact q
end
def Rd (H:Hp) (a:Addr) (u:HO):Prop:=H a=some u∨∃ o,H a=some (.frz o u)
theorem Rd.ok {P:Program}{w:World}{H:Hp}{h:Heap}{a:Addr}{u:HO} (r:Rd H a u) (x:HOk P w H h):ObjOk P w H h a u:=by
 rcases r with r | ⟨o,r⟩
 ·exact x a u r
 ·obtain ⟨_,q⟩:=x a _ r
  exact q
noncomputable def Mut:Option HO→Prop
 | some (.lst _)=>True
 | some (.dK _)=>True
 | some (.dT _)=>True
 | some (.set _ _)=>True
 | some (.ins _ _ _)=>True
 | some (.ext _)=>True
 | _=>False
section
variable {P:Program}{w:World}{H:Hp}{h h':Heap}{x e:Addr}{o':HO}
theorem HOk.write (ok:HOk P w H h) (mu:Mut (H x)) (he:e=x∨H e=some (.own x)) (k:∀ b u,b≠e→h.get? b=some u→h'.get? b=some u) (heo:∃ u,h'.get? e=some u)
  (new:ObjOk P w (upd H x o') h' x o'):HOk P w (upd H x o') h':=fun b u q=>by
 have nown:∀ c y,H c=some (.own y)→c≠x:=fun c y r z=>by subst z; rw [r] at mu; exact mu
 have ntup:∀ c xs,H c=some (.tup xs)→c≠x:=fun c xs r z=>by subst z; rw [r] at mu; exact mu
 by_cases hb:b=x
 ·subst hb; rw [upd_same] at q; cases q; exact new
 ·rw [upd_ne hb] at q
  by_cases hbe:b=e
  ·have q':H b=some (.own x):=by
    rcases he with z | z
    ·exact absurd (hbe.trans z) hb
    ·rw [hbe]; exact z
   rw [q] at q'; cases q'
   obtain ⟨v,hv⟩:=heo
   exact ⟨v,by rw [hbe]; exact hv⟩
  ·refine (ok b u q).stay (fun c v hc r=>k c v ?_ r) (fun c r=>by rw [upd_ne (nown c b r)]; exact r) fun c xs r=>by rw [upd_ne (ntup c xs r)]; exact r
   rcases hc with rfl | hc
   ·exact hbe
   ·rintro rfl
    rcases he with z | z
    ·exact nown c b hc z
    ·rw [hc] at z; cases z; exact hb rfl
end
structure Un (fs ex:List Addr) (H H':Hp) (h h':Heap):Prop where
 keep:∀ b o,h.get? b=some o→H b=none→b∉fs→b∉ex→h'.get? b=some o
 slot:∀ b o,h.get? b=some o→H b=none→b∈fs→b∉ex→∃ sl,h'.get? b=some { o with slots:=sl }
 free:∀ b o,h.get? b=some o→H b=none→b∉ex→H' b=none
 there:∀ b o,h.get? b=some o→b∉ex→∃ o',h'.get? b=some o'
 tups:∀ b xs,H b=some (.tup xs)→H' b=some (.tup xs)
 frzs:∀ b o u,H b=some (.frz o u)→H' b=some (.frz o u)
 tbls:∀ b ps,H b=some (.tbl ps)→∃ more,H' b=some (.tbl (ps++more))
section
variable {fs fs' ex ex':List Addr}{H H1 H2:Hp}{h h1 h2 h':Heap}{a x e:Addr}{o:HO}
theorem Un.any (u:Un fs ex H H1 h h1) {b:Addr}{ob:Obj} (q:h.get? b=some ob) (n:H b=none) (hx:b∉ex):∃ sl,h1.get? b=some { ob with slots:=sl }:=by
 by_cases hb:b∈fs
 ·exact u.slot b ob q n hb hx
 ·exact ⟨ob.slots,u.keep b ob q n hb hx⟩
theorem Un.kept (k:∀ b u,h.get? b=some u→h'.get? b=some u):Un fs ex H H h h' :=
 ⟨fun b ob q _ _ _=>k b ob q,fun b ob q _ _ _=>⟨ob.slots,k b ob q⟩,fun _ _ _ n _=>n,fun b ob q _=>⟨ob,k b ob q⟩,fun _ _ q=>q,fun _ _ _ q=>q,fun _ ps q=>⟨#[],by rw [q]; simp⟩⟩
theorem Un.refl:Un fs ex H H h h:=Un.kept fun _ _ q=>q
theorem Un.laid (k:∀ b u,h.get? b=some u→h'.get? b=some u) (hp:h.objs.size≤a) (hn:H a=none):Un fs ex H (upd H a o) h h' where
 keep:=fun b u q _ _ _=>k b u q
 slot:=fun b u q _ _ _=>⟨u.slots,k b u q⟩
 free:=fun b u q n _=>by rw [upd_ne (Nat.ne_of_lt (Nat.lt_of_lt_of_le (Heap.lt_size q) hp))]; exact n
 there:=fun b u q _=>⟨u,k b u q⟩
 tups:=fun b xs q=>by rw [upd_ne (ne_of_none q hn)]; exact q
 frzs:=fun b u xs q=>by rw [upd_ne (ne_of_none q hn)]; exact q
 tbls:=fun b ps q=>⟨#[],by rw [upd_ne (ne_of_none q hn),q]; simp⟩
theorem Un.write (mu:Mut (H x)) (he:e=x∨H e=some (.own x)) (k:∀ b u,b≠e→h.get? b=some u→h'.get? b=some u) (heo:∃ u,h'.get? e=some u):Un fs ex H (upd H x o) h h':=by
 have hx:∀ b,H b=none→b≠x:=fun b n z=>by subst z; rw [n] at mu; exact mu
 have hb:∀ b,H b=none→b≠e:=fun b n z=>by
  subst z
  rcases he with r | r
  ·exact hx b n r
  ·rw [n] at r; cases r
 have hm:∀ b u,H b=some u→¬ Mut (some u)→b≠x:=fun b u q nm z=>by subst z; rw [q] at mu; exact nm mu
 refine ⟨fun b u q n _ _=>k b u (hb b n) q,fun b u q n _ _=>⟨u.slots,k b u (hb b n) q⟩,fun b u q n _=>by rw [upd_ne (hx b n)]; exact n,fun b u q _=>?_,
  fun b xs q=>by rw [upd_ne (hm b _ q fun z=>z)]; exact q,fun b u xs q=>by rw [upd_ne (hm b _ q fun z=>z)]; exact q,fun b ps q=>⟨#[],by rw [upd_ne (hm b _ q fun z=>z),q]; simp⟩⟩
 by_cases hbe:b=e
 ·subst hbe; exact heo
 ·exact ⟨u,k b u hbe q⟩
end
noncomputable def trk (h:Heap) (H:Hp):List Addr:=(List.range h.objs.size).filter fun a=>(H a).isSome
noncomputable def hidT (h:Heap) (H:Hp):Heap:=W.hideAll h (trk h H)
theorem hidT_size (h:Heap) (H:Hp):(hidT h H).objs.size=h.objs.size:=W.hideAll_size _ _
theorem hidT_get {h:Heap}{H:Hp}{b:Addr}{o:Obj} (e:h.get? b=some o) (n:H b=none):(hidT h H).get? b=some o :=
 W.hideAll_get _ e fun hm=>by
  have q:(H b).isSome=true:=(List.mem_filter.mp hm).2
  rw [n] at q; simp at q
theorem of_hidT {h:Heap}{H:Hp}{b:Addr}{o:Obj} (e:(hidT h H).get? b=some o):h.get? b=some o∧H b=none:=by
 have e':h.get? b=some o:=W.of_hideAll (trk h H) e
 refine ⟨e',?_⟩
 cases q:H b with
 | none=>rfl
 | some x =>
  have hm:b∈trk h H:=List.mem_filter.mpr ⟨List.mem_range.mpr (Heap.lt_size e'),by simp [q]⟩
  have z:(hidT h H).get? b=none:=W.hideAll_none (trk h H) hm
  rw [z] at e; cases e
noncomputable def allNews (g h:Heap) (L:Addr):List (Addr × Obj):=(List.range h.objs.size).filterMap fun a=>if a=L∨(g.get? a).isSome=true then none else (h.get? a).map fun o=>(a,o)
noncomputable def rest (g h:Heap) (L d:Addr):List (Addr × Obj):=(allNews g h L).filter fun p=>decide (p.1≠d)
structure Mod (K:W.Frag) (mg:Str→Option Value) (base:Heap):Prop where
 kin:K.In base
 glob:base.Ns mainGlobals mg
 blt:∃ mb,base.Ns builtinsNs mb∧∀ x:Str,x ≠ "__name__"→mb x=bootBuiltins x
 nolimit:base.NoLimit
structure Cx where
 prog:Program
 w:World
 K:W.Frag
 mg:Str→Option Value
 base:Heap
 A:Around
 N:List Str
 s₀:Shared
 H₀:Hp
 env:Env
 outer:List Env
 stack:List Env
 ex:List Addr
 fn:Str→Bool
 calm:Bool
 pn:List (Addr × Obj)
 xe:Value→Shared→Prop
noncomputable def frs (l:List Env):List Addr:=l.filterMap (·.frame)
noncomputable abbrev Cx.fs (X:Cx):List Addr:=frs X.outer
def Vis (sc:Scope) (x:Str):Prop:=sc.names.lookup x=some .local∨sc.names.lookup x=some .cell∨sc.names.lookup x=some .free
def Loc (sc:Scope) (x:Str):Prop:=sc.names.lookup x=some .local∨sc.names.lookup x=some .cell
def Look (env:Env) (h:Heap) (m:Str→Option Value) (x:Str) (u:Value):Prop :=
 (env.kindOf x=some .local∧m x=some u)∨((env.kindOf x=some .cell∨env.kindOf x=some .free)∧∃ c,env.cells.lookup x=some c∧h.IsCell c (some u))
structure Cx.Ok (X:Cx):Prop where
 mod:Mod X.K X.mg X.base
 kind:X.env.scope.kind=.function
 glob:X.env.globals=mainGlobals
 blt:X.env.builtins=builtinsNs
 above:X.s₀.heap.objs.size≤X.env.locals
 inj:∀ x y c,X.env.cells.lookup x=some c→X.env.cells.lookup y=some c→x=y
 has:∀ x,(X.env.kindOf x=some .cell∨X.env.kindOf x=some .free)→∃ c,X.env.cells.lookup x=some c
 cab:∀ x c,X.fn x=true→X.env.cells.lookup x=some c→X.s₀.heap.objs.size≤c
 hd:X.calm=true→X.A.handled=none
 frames:X.A.frames=some X.stack
 stk:X.stack=X.outer∨(X.stack=X.env::X.outer∧X.env.frame=some X.env.locals)
 exf:∀ b∈X.ex,b≠X.env.locals∧∀ x c,X.env.cells.lookup x=some c→c≠b
 bs:∀ b o,X.base.get? b=some o→X.s₀.heap.get? b=some o∧X.H₀ b=none
 bsz:X.base.objs.size≤X.s₀.heap.objs.size
 noex:∀ b o,X.base.get? b=some o→b∉X.ex
 exfs:∀ b∈X.ex,b∉X.fs
 funs:X.s₀.heap.FunFrames X.base X.outer
 frf:∀ b∈X.fs,X.H₀ b=none
structure Inv (X:Cx) (pins:List (Addr × Obj)) (σ:List (Option V)) (H:Hp) (s:Shared):Prop where
 ok:X.Ok
 os:s.os=X.s₀.os
 bare:AllBare s.gens
 base:Un X.fs X.ex X.H₀ H X.s₀.heap s.heap
 loc:∃ m,s.heap.Ns X.env.locals m∧∀ (i:Nat) (x:Str) (v:V),X.N[i]?=some x→σ[i]?=some (some v)→Vis X.env.scope x→∃ u,RelV v u∧Look X.env s.heap m x u
 cell:∀ x c,X.env.cells.lookup x=some c→∃ v,s.heap.IsCell c v
 free:H X.env.locals=none
 freeC:∀ x c,X.env.cells.lookup x=some c→H c=none
 pin:∀ p∈X.pn++pins,s.heap.get? p.1=some p.2∧H p.1=none∧p.1≠X.env.locals∧p.1∉X.fs∧∀ v,p.2.data≠.cell v
 hok:HOk X.prog X.w H s.heap
 len:σ.length=X.N.length
section
variable {X:Cx}{pins:List (Addr × Obj)}{σ:List (Option V)}{H H':Hp}{s:Shared}{h':Heap}
theorem Cx.Ok.nofr (ok:X.Ok) {b:Addr}{o:Obj} (e:X.base.get? b=some o):b∉X.fs:=fun hb=>by
 have:=(ok.funs.mem hb).1
 rw [e] at this; cases this
theorem Inv.bs (I:Inv X pins σ H s):∀ b o,X.base.get? b=some o→s.heap.get? b=some o∧H b=none:=fun b o e =>
 ⟨I.base.keep b o (I.ok.bs b o e).1 (I.ok.bs b o e).2 (I.ok.nofr e) (I.ok.noex b o e),I.base.free b o (I.ok.bs b o e).1 (I.ok.bs b o e).2 (I.ok.noex b o e)⟩
theorem Inv.bk (I:Inv X pins σ H s):∀ b o,X.base.get? b=some o→s.heap.get? b=some o:=fun b o e=>(I.bs b o e).1
theorem Inv.mod (I:Inv X pins σ H s):Mod X.K X.mg X.base:=I.ok.mod
theorem Inv.kIn (I:Inv X pins σ H s):X.K.In s.heap:=I.ok.mod.kin.keeps I.bk
theorem Inv.lt (I:Inv X pins σ H s):X.env.locals<s.heap.objs.size:=let ⟨_,hn,_⟩:=I.loc; hn.lt
theorem Inv.sz (I:Inv X pins σ H s):X.s₀.heap.objs.size≤s.heap.objs.size:=Nat.le_trans I.ok.above (Nat.le_of_lt I.lt)
theorem Inv.nofs (I:Inv X pins σ H s) {a:Addr} (h:s.heap.objs.size≤a):a∉X.fs:=fun hb=>by
 obtain ⟨_,o,ho,_⟩:=I.ok.funs.mem hb
 exact absurd (Nat.lt_of_lt_of_le (Heap.lt_size ho) (Nat.le_trans I.sz h)) (Nat.lt_irrefl _)
theorem Inv.cne (I:Inv X pins σ H s):∀ x c,X.env.cells.lookup x=some c→c≠X.env.locals:=fun x c e z=>by
 obtain ⟨v,o,ho,hd⟩:=I.cell x c e
 obtain ⟨m,⟨o',es,ep,ho',hd',_⟩,_⟩:=I.loc
 rw [z,ho'] at ho; cases ho; rw [hd'] at hd; cases hd
theorem Inv.funs (I:Inv X pins σ H s):s.heap.FunFrames X.base X.outer:=by
 have all:∀ (l:List Env),(∀ b∈frs l,b∈X.fs)→X.s₀.heap.FunFrames X.base l→s.heap.FunFrames X.base l:=by
  intro l
  induction l with
  | nil=>intro _ _; trivial
  | cons env r ih =>
   intro hs hl
   obtain ⟨hk,⟨L,o,hf,hn,ho,hd⟩,hr⟩:=hl
   have hL:L∈X.fs:=hs L (by unfold frs; rw [List.filterMap_cons,hf]; exact List.mem_cons_self)
   obtain ⟨sl,e⟩:=I.base.slot L o ho (I.ok.frf L hL) hL fun z=>I.ok.exfs L z hL
   exact ⟨hk,⟨L,_,hf,hn,e,hd⟩,ih (fun b hb=>hs b (by unfold frs; rw [List.filterMap_cons,hf]; exact List.mem_cons_of_mem _ hb)) hr⟩
 exact all X.outer (fun _ hb=>hb) I.ok.funs
theorem Inv.stack (I:Inv X pins σ H s):s.heap.FunFrames X.base X.stack:=by
 rcases I.ok.stk with e | ⟨e,hf⟩
 ·rw [e]; exact I.funs
 ·rw [e]
  obtain ⟨m,hn,_⟩:=I.loc
  refine .cons (by rw [I.ok.kind]; decide) hf hn ?_ I.funs
  exact Heap.get?_none_of_le (Nat.le_trans I.ok.bsz I.ok.above)
theorem Inv.stkSub (I:Inv X pins σ H s):∀ b∈frs X.stack,b∈X.env.locals::X.fs:=fun b hb=>by
 rcases I.ok.stk with e | ⟨e,hf⟩
 ·rw [e] at hb; exact List.mem_cons_of_mem _ hb
 ·rw [e] at hb
  unfold frs at hb
  rw [List.filterMap_cons,hf] at hb
  exact hb
theorem Inv.stkFree (I:Inv X pins σ H s):∀ b∈frs X.stack,H b=none:=fun b hb=>by
 rcases List.mem_cons.mp (I.stkSub b hb) with e | hb
 ·rw [e]; exact I.free
 ·obtain ⟨_,o,ho,_⟩:=I.ok.funs.mem hb
  exact I.base.free b o ho (I.ok.frf b hb) fun z=>I.ok.exfs b z hb
theorem Inv.step {g':Array GenState}{t':Nat}{d':Drawn}{ch:List Addr} (I:Inv X pins σ H s)
  (hch:∀ b∈ch,(b∈X.ex∨X.s₀.heap.objs.size≤b)∧b≠X.env.locals∧(∀ x c,X.env.cells.lookup x=some c→c≠b)∧∀ p∈X.pn++pins,p.1≠b)
  (keep:∀ b o,b≠X.env.locals→b∉X.fs→b∉ch→s.heap.get? b=some o→H b=none→h'.get? b=some o)
  (slot:∀ b o,b≠X.env.locals→b∈X.fs→b∉ch→s.heap.get? b=some o→H b=none→∃ sl,h'.get? b=some { o with slots:=sl }) (free:∀ b o,b∉ch→s.heap.get? b=some o→H b=none→H' b=none)
  (there:∀ b o,b∉ch→s.heap.get? b=some o→∃ o',h'.get? b=some o')
  (tups:∀ b xs,H b=some (.tup xs)→H' b=some (.tup xs)) (frzs:∀ b o u,H b=some (.frz o u)→H' b=some (.frz o u)) (tbls:∀ b ps,H b=some (.tbl ps)→∃ more,H' b=some (.tbl (ps++more)))
  (ns:∀ m,s.heap.Ns X.env.locals m→h'.Ns X.env.locals m) (hok:HOk X.prog X.w H' h') (hg:AllBare g') :
  Inv X pins σ H' { s with heap:=h',gens:=g',drawn:=d',toks:=t' }:=by
 have neL:∀ b o,X.s₀.heap.get? b=some o→b≠X.env.locals:=fun b o e=>Nat.ne_of_lt (Nat.lt_of_lt_of_le (Heap.lt_size e) I.ok.above)
 have neC:∀ b o,X.s₀.heap.get? b=some o→b∉X.ex→b∉ch:=fun b o e hx hb=>by
  rcases (hch b hb).1 with z | z
  ·exact hx z
  ·exact absurd (Nat.lt_of_lt_of_le (Heap.lt_size e) z) (Nat.lt_irrefl _)
 have cellK:∀ x c,X.env.cells.lookup x=some c→∀ v,s.heap.IsCell c v→h'.IsCell c v:=fun x c e v ⟨o,ho,hd⟩=>by
  have nch:c∉ch:=fun z=>(hch c z).2.2.1 x c e rfl
  by_cases hc:c∈X.fs
  ·obtain ⟨sl,q⟩:=slot c o (I.cne x c e) hc nch ho (I.freeC x c e)
   exact ⟨_,q,hd⟩
  ·exact ⟨o,keep c o (I.cne x c e) hc nch ho (I.freeC x c e),hd⟩
 refine ⟨I.ok,I.os,hg,⟨fun b o e n hb hx=>?_,fun b o e n hb hx=>?_,fun b o e n hx=>?_,fun b o e hx=>?_,fun b xs e=>tups b xs (I.base.tups b xs e),fun b o xs e=>frzs b o xs (I.base.frzs b o xs e),fun b ps e=>?_⟩,?_,fun x c e=>?_,?_,fun x c e=>?_,fun p hp=>?_,hok,I.len⟩
 ·exact keep b o (neL b o e) hb (neC b o e hx) (I.base.keep b o e n hb hx) (I.base.free b o e n hx)
 ·obtain ⟨sl,e1⟩:=I.base.slot b o e n hb hx
  obtain ⟨sl',e2⟩:=slot b _ (neL b o e) hb (neC b o e hx) e1 (I.base.free b o e n hx)
  exact ⟨sl',e2⟩
 ·obtain ⟨o',e1⟩:=I.base.there b o e hx
  exact free b o' (neC b o e hx) e1 (I.base.free b o e n hx)
 ·obtain ⟨o',e1⟩:=I.base.there b o e hx
  exact there b o' (neC b o e hx) e1
 ·obtain ⟨m1,e1⟩:=I.base.tbls b ps e
  obtain ⟨m2,e2⟩:=tbls b _ e1
  exact ⟨m1++m2,by rw [e2,Array.append_assoc]⟩
 ·obtain ⟨m,hn,hl⟩:=I.loc
  refine ⟨m,ns m hn,fun i x v e1 e2 e3=>?_⟩
  obtain ⟨u,r,l⟩:=hl i x v e1 e2 e3
  refine ⟨u,r,?_⟩
  rcases l with l | ⟨k,c,e,z⟩
  ·exact .inl l
  ·exact .inr ⟨k,c,e,cellK x c e _ z⟩
 ·obtain ⟨v,z⟩:=I.cell x c e
  exact ⟨v,cellK x c e v z⟩
 ·obtain ⟨m,⟨o,_,_,ho,_⟩,_⟩:=I.loc
  exact free _ o (fun z=>(hch _ z).2.1 rfl) ho I.free
 ·obtain ⟨v,o,ho,hd⟩:=I.cell x c e
  exact free c o (fun z=>(hch c z).2.2.1 x c e rfl) ho (I.freeC x c e)
 ·obtain ⟨e,n,ne,nf,d⟩:=I.pin p hp
  have nch:p.1∉ch:=fun z=>(hch p.1 z).2.2.2 p hp rfl
  exact ⟨keep p.1 p.2 ne nf nch e n,free p.1 p.2 nch e n,ne,nf,d⟩
theorem Inv.un {t':Nat} (I:Inv X pins σ H s) (u:Un X.fs [] H H' s.heap h') (hok:HOk X.prog X.w H' h'):Inv X pins σ H' { s with heap:=h',toks:=t' }:=by
 obtain ⟨m,⟨o,es,ep,ho,r⟩,_⟩:=id I.loc
 obtain ⟨sl,hL⟩:=u.any ho I.free (by simp)
 exact I.step (g':=s.gens) (d':=s.drawn) (ch:=[]) (fun _ z=>nomatch z) (fun b o _ hb _ e n=>u.keep b o e n hb (by simp)) (fun b o _ hb _ e n=>u.slot b o e n hb (by simp)) (fun b o _ e n=>u.free b o e n (by simp)) (fun b o _ e=>u.there b o e (by simp)) u.tups u.frzs u.tbls (fun m' hm=>by
  obtain ⟨o',es',ep',ho',r'⟩:=hm
  rw [ho] at ho'; cases ho'
  exact ⟨_,es',ep',hL,r'⟩) hok I.bare
theorem Inv.call {g':Array GenState}{t':Nat}{d':Drawn}{ch:List Addr} (I:Inv X pins σ H s) (u:Un (frs X.stack) ch H H' s.heap h') (hok:HOk X.prog X.w H' h') (hg:AllBare g')
  (hch:∀ b∈ch,(b∈X.ex∨X.s₀.heap.objs.size≤b)∧b≠X.env.locals∧(∀ x c,X.env.cells.lookup x=some c→c≠b)∧∀ p∈X.pn++pins,p.1≠b) :
  Inv X pins σ H' { s with heap:=h',gens:=g',drawn:=d',toks:=t' }:=by
 obtain ⟨m,⟨o,es,ep,ho,r⟩,_⟩:=id I.loc
 obtain ⟨sl,hL⟩:=u.any ho I.free fun z=>(hch _ z).2.1 rfl
 exact I.step (ch:=ch) hch (fun b o hL hb hc e n=>u.keep b o e n (fun z=>(List.mem_cons.mp (I.stkSub b z)).elim hL hb) hc) (fun b o _ _ hc e n=>u.any e n hc) (fun b o hc e n=>u.free b o e n hc) (fun b o hc e=>u.there b o e hc) u.tups u.frzs u.tbls (fun m' hm=>by
  obtain ⟨o',es',ep',ho',r'⟩:=hm
  rw [ho] at ho'; cases ho'
  exact ⟨_,es',ep',hL,r'⟩) hok hg
theorem Inv.turned {t':Nat}{it:Addr} (I:Inv X pins σ H s) (k:∀ b o,b≠it→s.heap.get? b=some o→h'.get? b=some o) (hn:H it=none) (hL:it≠X.env.locals)
  (h1:it∈X.ex∨X.s₀.heap.objs.size≤it) (h2:∀ x c,X.env.cells.lookup x=some c→c≠it) (h3:∀ p∈X.pn++pins,p.1≠it):Inv X pins σ H { s with heap:=h',toks:=t' }:=by
 have nit:∀ b u,H b=some u→b≠it:=fun b u e z=>by rw [z,hn] at e; cases e
 refine I.step (g':=s.gens) (d':=s.drawn) (ch:=[it]) (fun b hb=>?_) (fun b o _ _ hc e _=>k b o (fun z=>hc (by simp [z])) e) (fun b o _ _ hc e _=>⟨o.slots,k b o (fun z=>hc (by simp [z])) e⟩) (fun _ _ _ _ n=>n)
  (fun b o hc e=>⟨o,k b o (fun z=>hc (by simp [z])) e⟩) (fun _ _ e=>e) (fun _ _ _ e=>e) (fun b ps e=>⟨#[],by rw [e]; simp⟩) (fun m hm=>?_) (fun b u e=>?_) I.bare
 ·have e:b=it:=by simpa using hb
  subst e
  exact ⟨h1,hL,h2,h3⟩
 ·obtain ⟨o,es,ep,ho,r⟩:=hm
  exact ⟨o,es,ep,k _ o (Ne.symm hL) ho,r⟩
 ·refine (I.hok b u e).stay (fun c v hc q=>k c v ?_ q) (fun _ q=>q) fun _ _ q=>q
  rcases hc with z | z
  ·rw [z]; exact nit b u e
  ·exact nit c _ z
theorem Inv.tok (I:Inv X pins σ H s) (t:Nat):Inv X pins σ H { s with toks:=t }:=I.un (h':=s.heap) (t':=t) Un.refl I.hok
theorem Inv.kept {t':Nat} (I:Inv X pins σ H s) (k:∀ b u,s.heap.get? b=some u→h'.get? b=some u):Inv X pins σ H { s with heap:=h',toks:=t' }:=I.un (Un.kept k) (I.hok.kept k)
theorem Inv.laid {a:Addr}{o:HO}{t':Nat} (I:Inv X pins σ H s) (k:∀ b u,s.heap.get? b=some u→h'.get? b=some u) (hp:s.heap.objs.size≤a) (new:ObjOk X.prog X.w (upd H a o) h' a o) :
  Inv X pins σ (upd H a o) { s with heap:=h',toks:=t' }:=I.un (Un.laid k hp (I.hok.fresh hp)) (I.hok.laid k hp new)
theorem Inv.write {x e:Addr}{o:HO}{t':Nat} (I:Inv X pins σ H s) (mu:Mut (H x)) (he:e=x∨H e=some (.own x)) (k:∀ b u,b≠e→s.heap.get? b=some u→h'.get? b=some u) (heo:∃ u,h'.get? e=some u)
  (new:ObjOk X.prog X.w (upd H x o) h' x o):Inv X pins σ (upd H x o) { s with heap:=h',toks:=t' }:=I.un (Un.write mu he k heo) (I.hok.write mu he k heo new)
theorem Inv.weak {σ':List (Option V)} (I:Inv X pins σ H s) (hl:σ'.length=σ.length) (w:∀ (i:Nat) v,σ'[i]?=some (some v)→σ[i]?=some (some v)):Inv X pins σ' H s :=
 ⟨I.ok,I.os,I.bare,I.base,let ⟨m,hn,hl'⟩:=I.loc; ⟨m,hn,fun i x v e1 e2 e3=>hl' i x v e1 (w i v e2) e3⟩,I.cell,I.free,I.freeC,I.pin,I.hok,hl.trans I.len⟩
theorem Inv.pins_of {pins':List (Addr × Obj)} (I:Inv X pins σ H s) (h:∀ p∈pins',s.heap.get? p.1=some p.2∧H p.1=none∧p.1≠X.env.locals∧p.1∉X.fs∧∀ v,p.2.data≠.cell v):Inv X pins' σ H s :=
 ⟨I.ok,I.os,I.bare,I.base,I.loc,I.cell,I.free,I.freeC,fun p hp=>(List.mem_append.mp hp).elim (fun z=>I.pin p (List.mem_append_left _ z)) (h p),I.hok,I.len⟩
theorem nodup_ix {N:List Str} (hN:N.Nodup) {i j:Nat}{x:Str} (a:N[i]?=some x) (b:N[j]?=some x):i=j:=by
 obtain ⟨h1,e1⟩:=List.getElem?_eq_some_iff.mp a
 obtain ⟨h2,e2⟩:=List.getElem?_eq_some_iff.mp b
 exact (List.getElem_inj hN).mp (e1.trans e2.symm)
theorem store_ok2 {M:Model}{A:Around}{E:Value→Shared→Prop}{i:Nat}{x:Str}{v:V}{u:Value}{Q:Unit→Shared→Prop} (I:Inv X pins σ H s) (hN:X.N.Nodup) (hi:X.N[i]?=some x) (hx:Loc X.env.scope x) (r:RelV v u)
  (h:∀ s',Inv X pins (σ.set i (some v)) H s'→(∃ a,Heap.SameBut a s.heap s'.heap∧(a=X.env.locals∨X.env.cells.lookup x=some a))→Q () s') (hf:X.fn x=true∨X.env.scope.names.lookup x=some .local:=by first | exact .inl rfl | exact .inr rfl | assumption):wpAny M A (storeName X.env x u) Q E s:=by
 obtain ⟨m,hn,hl⟩:=id I.loc
 have hcls:(X.env.scope.kind == .class||(X.env.scope.kind == .module&&X.env.locals != X.env.globals))=false:=by rw [I.ok.kind]; rfl
 have hiσ:i<σ.length:=by rw [I.len]; exact (List.getElem?_eq_some_iff.mp hi).1
 have cne:=I.cne
 have tracked:∀ {a:Addr}{h':Heap},(∃ o,s.heap.get? a=some o∧H a=none)→Heap.SameBut a s.heap h'→HOk X.prog X.w H h':=fun {a h'} ha hs b ob e=>by
  obtain ⟨_,_,hfree⟩:=ha
  refine (I.hok b ob e).stay (fun c w' hc q=>(hs.2 c ?_).trans q) (fun _ q=>q) fun _ _ q=>q
  rintro rfl
  rcases hc with rfl | hc
  ·rw [hfree] at e; cases e
  ·rw [hfree] at hc; cases hc
 rcases hx with hk | hk
 ·refine wpAny_storeName_local hk hn (fun h' hn' hs=>?_) hcls
  obtain ⟨oL,_,_,hoL,_⟩:=id hn
  refine h _ ⟨I.ok,I.os,I.bare,⟨fun b o e n hb hx=>?_,fun b o e n hb hx=>?_,I.base.free,fun b o e hx=>?_,I.base.tups,I.base.frzs,I.base.tbls⟩,⟨_,hn',fun j y v' e1 e2 e3=>?_⟩,fun y c e=>?_,I.free,I.freeC,fun p hp=>?_,tracked ⟨oL,hoL,I.free⟩ hs,by simpa using I.len⟩ ⟨_,hs,.inl rfl⟩
  ·exact (hs.2 b (Nat.ne_of_lt (Nat.lt_of_lt_of_le (Heap.lt_size e) I.ok.above))).trans (I.base.keep b o e n hb hx)
  ·obtain ⟨sl,e1⟩:=I.base.slot b o e n hb hx
   exact ⟨sl,(hs.2 b (Nat.ne_of_lt (Nat.lt_of_lt_of_le (Heap.lt_size e) I.ok.above))).trans e1⟩
  ·obtain ⟨o',e1⟩:=I.base.there b o e hx
   exact ⟨o',(hs.2 b (Nat.ne_of_lt (Nat.lt_of_lt_of_le (Heap.lt_size e) I.ok.above))).trans e1⟩
  ·by_cases hj:j=i
   ·subst hj
    rw [hi] at e1; cases e1
    rw [List.getElem?_set_self hiσ] at e2
    cases e2
    exact ⟨u,r,.inl ⟨hk,by simp⟩⟩
   ·rw [List.getElem?_set_ne (Ne.symm hj)] at e2
    obtain ⟨u',r',q⟩:=hl j y v' e1 e2 e3
    refine ⟨u',r',?_⟩
    rcases q with ⟨k,e⟩ | ⟨k,c,e,z⟩
    ·refine .inl ⟨k,?_⟩
     have:y≠x:=fun e=>hj (nodup_ix hN e1 (e▸hi))
     simp [this,e]
    ·exact .inr ⟨k,c,e,z.sameBut hs (cne y c e)⟩
  ·obtain ⟨w',z⟩:=I.cell y c e
   exact ⟨w',z.sameBut hs (cne y c e)⟩
  ·obtain ⟨e,n,ne,nf,d⟩:=I.pin p hp
   exact ⟨(hs.2 p.1 ne).trans e,n,ne,nf,d⟩
 ·have hfn:X.fn x=true:=by
   rcases hf with z | z
   ·exact z
   ·rw [z] at hk; cases hk
  obtain ⟨c,hc⟩:=I.ok.has x (.inl hk)
  obtain ⟨w',z⟩:=I.cell x c hc
  refine wpAny_storeName_cell I.ok.kind hk hc z (fun h' hc' hs=>?_)
  obtain ⟨oc,hoc,hocd⟩:=id z
  refine h { s with heap:=h' } ⟨I.ok,I.os,I.bare,⟨fun b o e n hb hx=>?_,fun b o e n hb hx=>?_,I.base.free,fun b o e hx=>?_,I.base.tups,I.base.frzs,I.base.tbls⟩,⟨m,hn.sameBut hs (Ne.symm (cne x c hc)),fun j y v' e1 e2 e3=>?_⟩,fun y c' e=>?_,I.free,I.freeC,fun p hp=>?_,tracked ⟨oc,hoc,I.freeC x c hc⟩ hs,by simpa using I.len⟩ ⟨c,hs,.inr hc⟩
  ·exact (hs.2 b (Nat.ne_of_lt (Nat.lt_of_lt_of_le (Heap.lt_size e) (I.ok.cab x c hfn hc)))).trans (I.base.keep b o e n hb hx)
  ·obtain ⟨sl,e1⟩:=I.base.slot b o e n hb hx
   exact ⟨sl,(hs.2 b (Nat.ne_of_lt (Nat.lt_of_lt_of_le (Heap.lt_size e) (I.ok.cab x c hfn hc)))).trans e1⟩
  ·obtain ⟨o',e1⟩:=I.base.there b o e hx
   exact ⟨o',(hs.2 b (Nat.ne_of_lt (Nat.lt_of_lt_of_le (Heap.lt_size e) (I.ok.cab x c hfn hc)))).trans e1⟩
  ·by_cases hj:j=i
   ·subst hj
    rw [hi] at e1; cases e1
    rw [List.getElem?_set_self hiσ] at e2
    cases e2
    exact ⟨u,r,.inr ⟨.inl hk,c,hc,hc'⟩⟩
   ·rw [List.getElem?_set_ne (Ne.symm hj)] at e2
    obtain ⟨u',r',q⟩:=hl j y v' e1 e2 e3
    refine ⟨u',r',?_⟩
    rcases q with q | ⟨k,c',e,z'⟩
    ·exact .inl q
    ·refine .inr ⟨k,c',e,z'.sameBut hs ?_⟩
     rintro rfl
     exact hj (nodup_ix hN e1 (I.ok.inj _ _ _ e hc▸hi))
  ·by_cases hcc:c'=c
   ·subst hcc; exact ⟨_,hc'⟩
   ·obtain ⟨w2,z2⟩:=I.cell y c' e
    exact ⟨w2,z2.sameBut hs hcc⟩
  ·obtain ⟨e,n,ne,nf,d⟩:=I.pin p hp
   refine ⟨(hs.2 p.1 ?_).trans e,n,ne,nf,d⟩
   intro q
   rw [q,hoc] at e
   have q':oc=p.2:=Option.some.inj e
   exact d w' (by rw [← q']; exact hocd)
theorem store_ok {M:Model}{A:Around}{E:Value→Shared→Prop}{i:Nat}{x:Str}{v:V}{u:Value}{Q:Unit→Shared→Prop} (I:Inv X pins σ H s) (hN:X.N.Nodup) (hi:X.N[i]?=some x) (hx:Loc X.env.scope x) (r:RelV v u)
  (h:∀ s',Inv X pins (σ.set i (some v)) H s'→Q () s') (hf:X.fn x=true∨X.env.scope.names.lookup x=some .local:=by first | exact .inl rfl | exact .inr rfl | assumption):wpAny M A (storeName X.env x u) Q E s :=
 store_ok2 I hN hi hx r (fun s' I' _=>h s' I') hf
theorem Inv.call' {s':Shared}{ch:List Addr} (I:Inv X pins σ H s) (ho:s'.os=s.os) (u:Un (frs X.stack) ch H H' s.heap s'.heap) (hok:HOk X.prog X.w H' s'.heap) (hg:AllBare s'.gens)
  (hch:∀ b∈ch,(b∈X.ex∨X.s₀.heap.objs.size≤b)∧b≠X.env.locals∧(∀ x c,X.env.cells.lookup x=some c→c≠b)∧∀ p∈X.pn++pins,p.1≠b):Inv X pins σ H' s':=by
 obtain ⟨h',g',d',t',o'⟩:=s'
 have e:o'=s.os:=ho
 subst e
 exact I.call (g':=g') (t':=t') (d':=d') u hok hg hch
end
noncomputable abbrev XK:=Value→Option Addr→Hp→Prop
noncomputable abbrev St:=List (Option V)
noncomputable abbrev VK:=V→Hp→Prop
noncomputable abbrev TE:=St→Hp→VK→Prop
noncomputable abbrev TT:=St→Hp→(Bool→Hp→Prop)→Prop
noncomputable abbrev TA:=St→Hp→(List V→Hp→Prop)→Prop
structure Ends where
 nx:St→Hp→Prop
 rt:VK
 bk:St→Hp→Prop:=fun _ _=>False
 ct:St→Hp→Prop:=fun _ _=>False
noncomputable abbrev TS:=Ends→St→Hp→Prop
inductive EP (X:Cx) (pins:List (Addr × Obj)) (σ:St) (Q:VK) (u:Value) (s':Shared):Prop
 | mk (v:V) (H':Hp) (I:Inv X pins σ H' s') (r:RelV v u) (q:Q v H')
inductive TP (X:Cx) (pins:List (Addr × Obj)) (σ:St) (Q:Bool→Hp→Prop) (b:Bool) (s':Shared):Prop
 | mk (H':Hp) (I:Inv X pins σ H' s') (q:Q b H')
inductive AP (X:Cx) (pins:List (Addr × Obj)) (σ:St) (Q:List V→Hp→Prop) (us:List Value) (s':Shared):Prop
 | mk (vs:List V) (H':Hp) (I:Inv X pins σ H' s') (r:Vals vs us) (q:Q vs H')
def SP (X:Cx) (pins:List (Addr × Obj)) (D:Ends) (f:Flow) (s':Shared):Prop :=
 match f with
 | .next=>∃ σ' H',Inv X pins σ' H' s'∧D.nx σ' H'
 | .brk=>∃ σ' H',Inv X pins σ' H' s'∧D.bk σ' H'
 | .cont=>∃ σ' H',Inv X pins σ' H' s'∧D.ct σ' H'
 | .ret u=>∃ v σ' H',Inv X pins σ' H' s'∧RelV v u∧D.rt v H'
def PE (X:Cx) (e:Expr) (t:TE):Prop :=
 ∀ (pins:List (Addr × Obj)) (s:Shared) (σ:St) (H:Hp) (Q:VK),Inv X pins σ H s→t σ H Q→wpAny (model X.prog X.w) X.A (eval e X.env) (EP X pins σ Q) X.xe s
def PT (X:Cx) (e:Expr) (t:TT):Prop :=
 ∀ (pins:List (Addr × Obj)) (s:Shared) (σ:St) (H:Hp) (Q:Bool→Hp→Prop),Inv X pins σ H s→t σ H Q→wpAny (model X.prog X.w) X.A (isTrue e X.env (eval e X.env)) (TP X pins σ Q) X.xe s
def PW (X:Cx) (e:Expr) (t:TT):Prop :=
 ∀ (whole:Sem Value) (pins:List (Addr × Obj)) (s:Shared) (σ:St) (H:Hp) (Q:Bool→Hp→Prop),Inv X pins σ H s→t σ H Q→wpAny (model X.prog X.w) X.A (isTrue e X.env whole) (TP X pins σ Q) X.xe s
theorem PW.pt {X:Cx}{e:Expr}{t:TT} (h:PW X e t):PT X e t:=h _
def PA (X:Cx) (es:List Expr) (t:TA):Prop :=
 ∀ (pos:Pos) (pins:List (Addr × Obj)) (s:Shared) (σ:St) (H:Hp) (Q:List V→Hp→Prop),Inv X pins σ H s→t σ H Q→wpAny (model X.prog X.w) X.A (spliced (backTo pos (starEach es X.env))) (AP X pins σ Q) X.xe s
def PS (X:Cx) (st:Stmt) (t:TS):Prop :=
 ∀ (pins:List (Addr × Obj)) (s:Shared) (σ:St) (H:Hp) (D:Ends),Inv X pins σ H s→t D σ H→wpAny (model X.prog X.w) X.A (exec st X.env) (SP X pins D) X.xe s
def PSs (X:Cx) (st:List Stmt) (t:TS):Prop :=
 ∀ (pins:List (Addr × Obj)) (s:Shared) (σ:St) (H:Hp) (D:Ends),Inv X pins σ H s→t D σ H→wpAny (model X.prog X.w) X.A (execs st X.env) (SP X pins D) X.xe s
theorem thn {α:Type}{t:Sem α}{Q Q':α→Shared→Prop}{M:Model}{A:Around}{E:Value→Shared→Prop}{s:Shared} (h:wpAny M A t Q E s) (hQ:∀ a s,Q a s→Q' a s):wpAny M A t Q' E s:=wpAny_mono h hQ fun _ _ x=>x
section
variable {X:Cx}
noncomputable def tVar (i:Nat):TE:=fun σ H Q=>∃ v,σ[i]?=some (some v)∧Q v H
noncomputable def tC (v:V):TE:=fun _ H Q=>Q v H
theorem pe_var {i:Nat}{x:Str}{pos:Pos} (hN:X.N[i]?=some x) (hv:Vis X.env.scope x) (hd:(x == ("__debug__":Str))=false:=by decide) (hcd:(x == ("__classdict__":Str))=false:=by decide):PE X (.Name x pos) (tVar i):=by
 intro pins s σ H Q I h
 obtain ⟨v,e,h⟩:=h
 obtain ⟨m,hn,hl⟩:=I.loc
 obtain ⟨u,r,l⟩:=hl i x v hN e hv
 have fin:EP X pins σ Q u s:=⟨v,H,I,r,h⟩
 rcases l with ⟨hk,hm⟩ | ⟨hk,c,hc,hcell⟩
 ·exact wpAny_Name (wpAny_loadName_local I.ok.kind hk hn hm fin) hd
 ·rcases hk with hk | hk
  ·exact wpAny_Name (wpAny_loadName_cell I.ok.kind hk hc hcell fin) hd
  ·exact wpAny_Name (wpAny_loadName_free I.ok.kind hk hc hcell fin hcd) hd
theorem pe_int {i j pos}:PE X (.Constant (.int i) j pos) (tC (.int i)):=fun _ _ _ H _ I h=>wpAny_Constant_int ⟨.int i,H,I.tok _,⟨_,rfl⟩,h⟩
theorem pe_bl {b j pos}:PE X (.Constant (.bool b) j pos) (tC (.bl b)):=fun _ _ _ H _ I h=>Constant_bool ⟨.bl b,H,I,rfl,h⟩
theorem pe_non {j pos}:PE X (.Constant .none j pos) (tC .non):=fun _ _ _ H _ I h=>Constant_none ⟨.non,H,I,rfl,h⟩
theorem pe_str {x j pos}:PE X (.Constant (.str x) j pos) (tC (.str x)):=fun _ _ _ H _ I h=>Calls.Constant_str ⟨.str x,H,I.tok _,⟨_,rfl⟩,h⟩
def Gl (X:Cx) (x:Str):Prop:=X.env.kindOf x=some .globalImplicit
theorem ld_glob {E:Value→Shared→Prop}{pins:List (Addr × Obj)}{s:Shared}{σ:St}{H:Hp}{x:Str}{u:Value}{pos:Pos}{Q:Value→Shared→Prop} (I:Inv X pins σ H s) (hg:Gl X x) (hm:X.mg x=some u) (h:Q u s)
  (hd:(x == ("__debug__":Str))=false:=by decide):wpAny (model X.prog X.w) X.A (eval (.Name x pos) X.env) Q E s :=
 Calls.Name_function_global I.ok.kind hg (Calls.loadGlobal_global (by rw [I.ok.glob]; exact I.mod.glob.keeps I.bk) hm h) hd
theorem ld_blt {E:Value→Shared→Prop}{pins:List (Addr × Obj)}{s:Shared}{σ:St}{H:Hp}{x:Str}{u:Value}{pos:Pos}{Q:Value→Shared→Prop} (I:Inv X pins σ H s) (hg:Gl X x) (hm:X.mg x=none) (hv:bootBuiltins x=some u) (h:Q u s)
  (hn:x ≠ "__name__":=by decide) (hd:(x == ("__debug__":Str))=false:=by decide):wpAny (model X.prog X.w) X.A (eval (.Name x pos) X.env) Q E s:=by
 obtain ⟨mb,h1,h2⟩:=I.mod.blt
 exact Calls.Name_function_global I.ok.kind hg (Calls.loadGlobal_builtin (by rw [I.ok.glob]; exact I.mod.glob.keeps I.bk) hm (by rw [I.ok.blt]; exact h1.keeps I.bk) ((h2 x hn).trans hv) h) hd
theorem pe_bltn {x:Str}{v:V}{u:Value}{pos:Pos} (hg:Gl X x) (hm:X.mg x=none) (hv:bootBuiltins x=some u) (r:RelV v u) (hn:x ≠ "__name__":=by decide) (hd:(x == ("__debug__":Str))=false:=by decide):PE X (.Name x pos) (tC v) :=
 fun _ _ _ H _ I h=>ld_blt I hg hm hv ⟨v,H,I,r,h⟩ hn hd
variable {a b:Expr}{ta tb:TE}{pos:Pos}
variable {tA tB':TT}{rest:List Expr}
noncomputable def tAnd (t u:TT):TT:=fun σ H Q=>t σ H fun c H1=>if c=true then u σ H1 Q else Q false H1
noncomputable def tOr (t u:TT):TT:=fun σ H Q=>t σ H fun c H1=>if c=true then Q true H1 else u σ H1 Q
noncomputable def tNot (t:TT):TT:=fun σ H Q=>t σ H fun c H1=>Q (!c) H1
theorem pw_and1 (ha:PT X a tA):PW X (.BoolOp .And [a] pos) tA:=by
 intro wh pins s σ H Q I h
 refine isTrue_and (thn (ha pins s σ H Q I h) fun c s1 e=>?_)
 cases c with
 | true=>exact isTrue_and_nil e
 | false=>exact e
theorem pw_or1 (ha:PT X a tA):PW X (.BoolOp .Or [a] pos) tA:=by
 intro wh pins s σ H Q I h
 refine isTrue_or (thn (ha pins s σ H Q I h) fun c s1 e=>?_)
 cases c with
 | false=>exact isTrue_or_nil e
 | true=>exact e
theorem pw_and (ha:PT X a tA) (hb:PW X (.BoolOp .And (b::rest) pos) tB'):PW X (.BoolOp .And (a::b::rest) pos) (tAnd tA tB'):=by
 intro wh pins s σ H Q I h
 refine isTrue_and (thn (ha pins s σ H _ I h) fun c s1 ⟨H1,I1,q1⟩=>?_)
 cases c with
 | true=>exact hb wh pins s1 σ H1 Q I1 q1
 | false=>exact ⟨H1,I1,q1⟩
theorem pw_or (ha:PT X a tA) (hb:PW X (.BoolOp .Or (b::rest) pos) tB'):PW X (.BoolOp .Or (a::b::rest) pos) (tOr tA tB'):=by
 intro wh pins s σ H Q I h
 refine isTrue_or (thn (ha pins s σ H _ I h) fun c s1 ⟨H1,I1,q1⟩=>?_)
 cases c with
 | true=>exact ⟨H1,I1,q1⟩
 | false=>exact hb wh pins s1 σ H1 Q I1 q1
theorem pt_not (ha:PT X a tA):PT X (.UnaryOp .Not a pos) (tNot tA):=by
 intro pins s σ H Q I h
 exact isTrue_not (thn (ha pins s σ H (fun c H1=>Q (!c) H1) I h) fun c s' ⟨H',I',q⟩=>⟨H',I',q⟩)
noncomputable def tAndV (ta tb:TE):TE:=fun σ H Q=>ta σ H fun x H1=>∃ c,x=.bl c∧if c=true then tb σ H1 Q else Q (.bl false) H1
noncomputable def tOrV (ta tb:TE):TE:=fun σ H Q=>ta σ H fun x H1=>∃ c,x=.bl c∧if c=true then Q (.bl true) H1 else tb σ H1 Q
noncomputable def tNotV (ta:TE):TE:=fun σ H Q=>ta σ H fun x H1=>∃ c,x=.bl c∧Q (.bl (!c)) H1
theorem pe_one {op}{t:TE} (h:PE X a t):PE X (.BoolOp op [a] pos) t:=fun pins s σ H Q I hw=>BoolOp_one (h pins s σ H Q I hw)
theorem pe_and (ha:PE X a ta) (hb:PE X (.BoolOp .And (b::rest) pos) tb):PE X (.BoolOp .And (a::b::rest) pos) (tAndV ta tb):=by
 intro pins s σ H Q I h
 refine BoolOp_and (thn (ha pins s σ H _ I h) fun v s1 ⟨x,H1,I1,r1,q1⟩=>?_)
 obtain ⟨c,rfl,q1⟩:=q1
 cases r1
 refine wpAny_truthy_bool ?_
 cases c with
 | true=>exact hb pins s1 σ H1 Q I1 q1
 | false=>exact ⟨.bl false,H1,I1,rfl,q1⟩
theorem pe_or (ha:PE X a ta) (hb:PE X (.BoolOp .Or (b::rest) pos) tb):PE X (.BoolOp .Or (a::b::rest) pos) (tOrV ta tb):=by
 intro pins s σ H Q I h
 refine BoolOp_or (thn (ha pins s σ H _ I h) fun v s1 ⟨x,H1,I1,r1,q1⟩=>?_)
 obtain ⟨c,rfl,q1⟩:=q1
 cases r1
 refine wpAny_truthy_bool ?_
 cases c with
 | false=>exact hb pins s1 σ H1 Q I1 q1
 | true=>exact ⟨.bl true,H1,I1,rfl,q1⟩
theorem pe_not (ha:PE X a ta):PE X (.UnaryOp .Not a pos) (tNotV ta):=by
 intro pins s σ H Q I h
 refine UnaryOp_ (thn (ha pins s σ H _ I h) fun v s1 ⟨x,H1,I1,r1,q1⟩=>?_)
 obtain ⟨c,rfl,q1⟩:=q1
 cases r1
 exact not_of (wpAny_truthy_bool ⟨.bl (!c),H1,I1,rfl,q1⟩)
noncomputable def tIf (t:TT) (ta tb:TE):TE:=fun σ H Q=>t σ H fun c H1=>if c=true then ta σ H1 Q else tb σ H1 Q
theorem pe_ifExp {c:Expr} (hc:PT X c tA) (ha:PE X a ta) (hb:PE X b tb):PE X (.IfExp c a b pos) (tIf tA ta tb):=by
 intro pins s σ H Q I h
 refine wpAny_IfExp (thn (hc pins s σ H _ I h) fun d s1 ⟨H1,I1,q1⟩=>?_)
 cases d with
 | true=>exact ha pins s1 σ H1 Q I1 q1
 | false=>exact hb pins s1 σ H1 Q I1 q1
end
def SqL (K:W.Frag) (H:Hp) (a:Addr) (xs:List V):Prop :=
 Rd H a (.lst xs) ∨
  ∃ (o:Obj) (its:Array Value) (n:Nat),K.lookup a=some o∧o.cls=.type "list"∧o.dict=none∧o.data=.seq its n∧its.size≤sizeLine∧Vals xs its.toList
def SqT (K:W.Frag) (H:Hp) (a:Addr) (xs:List V):Prop :=
 Rd H a (.tup xs) ∨
  ∃ (o:Obj) (its:Array Value) (n:Nat),K.lookup a=some o∧o.cls=.type "tuple"∧o.data=.seq its n∧its.size≤sizeLine∧Vals xs its.toList
noncomputable def absV:Value→Option V
 | .none=>some .non
 | .bool b=>some (.bl b)
 | .int i _=>some (.int i)
 | .str x _=>some (.str x)
 | .bytes b _=>some (.byt b)
 | .float b _=>some (.flt b)
 | .ref a=>some (.ref a)
 | .type n=>some (.ty n)
 | _=>none
theorem RelV.abs {x:V}{u:Value} (r:RelV x u):absV u=some x:=by
 cases x with
 | non=>cases r; rfl
 | bl _=>cases r; rfl
 | int _=>obtain ⟨t,rfl⟩:=r; rfl
 | str _=>obtain ⟨t,rfl⟩:=r; rfl
 | byt _=>obtain ⟨t,rfl⟩:=r; rfl
 | flt _=>obtain ⟨t,rfl⟩:=r; rfl
 | ref _=>cases r; rfl
 | ty _=>cases r; rfl
theorem RelV.inj {x y:V}{u:Value} (r:RelV x u) (q:RelV y u):x=y:=Option.some.inj (r.abs.symm.trans q.abs)
theorem Vals.inj:∀ {xs ys:List V}{us:List Value},Vals xs us→Vals ys us→xs=ys
 | _,_,_,.nil,.nil=>rfl
 | _,_,_,.cons r t,.cons r' t'=>by rw [r.inj r',Vals.inj t t']
section
variable {X:Cx}{pins:List (Addr × Obj)}{σ:St}{H:Hp}{s:Shared}{a:Addr}{xs ys:List V}
theorem SqL.of {K:W.Frag} (h:H a=some (.lst xs)):SqL K H a xs:=.inl (.inl h)
theorem SqT.of {K:W.Frag} (h:H a=some (.tup xs)):SqT K H a xs:=.inl (.inl h)
theorem Inv.list (I:Inv X pins σ H s) (h:SqL X.K H a xs):∃ its:List Value,Vals xs its∧PlainL s.heap a its.toArray∧xs.length≤sizeLine:=by
 rcases h with h | ⟨o,its,n,hk,hc,hd,hs,hz,r⟩
 ·obtain ⟨z,its,n,r,e⟩:=h.ok I.hok
  exact ⟨its,r,⟨_,n,e,rfl,rfl,rfl⟩,z⟩
 ·refine ⟨its.toList,r,⟨o,n,I.kIn a o hk,hc,hd,by simpa using hs⟩,?_⟩
  have e:=r.length
  simp only [Array.length_toList] at e
  omega
theorem Inv.tuple (I:Inv X pins σ H s) (h:SqT X.K H a xs):∃ its:List Value,Vals xs its∧IsTup s.heap a its.toArray∧xs.length≤sizeLine:=by
 rcases h with h | ⟨o,its,n,hk,hc,hs,hz,r⟩
 ·obtain ⟨z,its,r,p⟩:=h.ok I.hok
  exact ⟨its,r,p,z⟩
 ·refine ⟨its.toList,r,⟨o,I.kIn a o hk,hc,n,by simpa using hs⟩,?_⟩
  have e:=r.length
  simp only [Array.length_toList] at e
  omega
theorem Inv.list_inj (I:Inv X pins σ H s) (h:SqL X.K H a xs) (h':SqL X.K H a ys):xs=ys:=by
 obtain ⟨its,r,⟨o,n,e,_,_,d⟩,_⟩:=I.list h
 obtain ⟨its',r',⟨o',n',e',_,_,d'⟩,_⟩:=I.list h'
 rw [e] at e'; cases e'
 rw [d] at d'
 injection d' with d1 _
 have:its=its':=by simpa using congrArg Array.toList d1
 subst this
 exact r.inj r'
theorem Inv.tuple_inj (I:Inv X pins σ H s) (h:SqT X.K H a xs) (h':SqT X.K H a ys):xs=ys:=by
 obtain ⟨its,r,⟨o,e,_,n,d⟩,_⟩:=I.tuple h
 obtain ⟨its',r',⟨o',e',_,n',d'⟩,_⟩:=I.tuple h'
 rw [e] at e'; cases e'
 rw [d] at d'
 injection d' with d1 _
 have:its=its':=by simpa using congrArg Array.toList d1
 subst this
 exact r.inj r'
end
noncomputable abbrev Cx.wish (X:Cx) (E:Value→Shared→Prop):Cx:={ X with xe:=E }
noncomputable abbrev Cx.nox (X:Cx):Cx:=X.wish fun _ _=>False
theorem Cx.Ok.wish {X:Cx} (ok:X.Ok) (E:Value→Shared→Prop):(X.wish E).Ok :=
 ⟨ok.mod,ok.kind,ok.glob,ok.blt,ok.above,ok.inj,ok.has,ok.cab,ok.hd,ok.frames,ok.stk,ok.exf,ok.bs,ok.bsz,ok.noex,ok.exfs,ok.funs,ok.frf⟩
theorem Cx.Ok.unwish {X:Cx}{E:Value→Shared→Prop} (ok:(X.wish E).Ok):X.Ok :=
 ⟨ok.mod,ok.kind,ok.glob,ok.blt,ok.above,ok.inj,ok.has,ok.cab,ok.hd,ok.frames,ok.stk,ok.exf,ok.bs,ok.bsz,ok.noex,ok.exfs,ok.funs,ok.frf⟩
section
variable {X:Cx}{pins:List (Addr × Obj)}{σ:St}{H:Hp}{s:Shared}{E:Value→Shared→Prop}
theorem Inv.wish (I:Inv X pins σ H s) (E:Value→Shared→Prop):Inv (X.wish E) pins σ H s:=⟨I.ok.wish E,I.os,I.bare,I.base,I.loc,I.cell,I.free,I.freeC,I.pin,I.hok,I.len⟩
theorem Inv.unwish (I:Inv (X.wish E) pins σ H s):Inv X pins σ H s:=⟨I.ok.unwish,I.os,I.bare,I.base,I.loc,I.cell,I.free,I.freeC,I.pin,I.hok,I.len⟩
theorem SP.unwish {D:Ends}{f:Flow}{s':Shared} (h:SP (X.wish E) pins D f s'):SP X pins D f s':=by
 cases f with
 | next=>obtain ⟨σ',H',I,q⟩:=h; exact ⟨σ',H',I.unwish,q⟩
 | brk=>obtain ⟨σ',H',I,q⟩:=h; exact ⟨σ',H',I.unwish,q⟩
 | cont=>obtain ⟨σ',H',I,q⟩:=h; exact ⟨σ',H',I.unwish,q⟩
 | ret u=>obtain ⟨v,σ',H',I,r,q⟩:=h; exact ⟨v,σ',H',I.unwish,r,q⟩
theorem PSs.nox {st:List Stmt}{t:TS} (h:PSs X.nox st t):PSs X st t:=fun pins s σ H D I hw =>
 wpAny_mono (h pins s σ H D (I.wish _) hw) (fun _ _ q=>q.unwish) fun _ _ z=>False.elim z
end
section
variable {X:Cx}{st:Stmt}{rest:List Stmt}{t u:TS}{e:Expr}{te:TE}{pos:Pos}
noncomputable def tNext:TS:=fun D σ H=>D.nx σ H
noncomputable def tSeq (t u:TS):TS:=fun D σ H=>t { D with nx:=u D } σ H
theorem pss_nil:PSs X [] tNext:=fun _ _ σ H _ I h=>wpAny_execs_nil ⟨σ,H,I,h⟩
theorem pss_cons (h1:PS X st t) (h2:PSs X rest u):PSs X (st::rest) (tSeq t u):=by
 intro pins s σ H D I h
 refine wpAny_execs_cons (thn (h1 pins s σ H { D with nx:=u D } I h) fun f s1 q=>?_)
 cases f with
 | next =>
  obtain ⟨σ',H',I',q⟩:=q
  exact h2 pins s1 σ' H' D I' q
 | ret v=>exact q
 | brk=>exact q
 | cont=>exact q
noncomputable def tBreak:TS:=fun D σ H=>D.bk σ H
noncomputable def tCont:TS:=fun D σ H=>D.ct σ H
theorem ps_pass:PS X (.Pass pos) tNext:=fun _ _ σ H _ I h=>wpAny_Pass ⟨σ,H,I,h⟩
theorem ps_break:PS X (.Break pos) tBreak:=fun _ _ σ H _ I h=>wpAny_Break ⟨σ,H,I,h⟩
theorem ps_continue:PS X (.Continue pos) tCont:=fun _ _ σ H _ I h=>wpAny_Continue ⟨σ,H,I,h⟩
theorem Inv.quiet {pins:List (Addr × Obj)}{σ:St}{H:Hp}{s:Shared} (I:Inv X pins σ H s):interactive X.env=false:=by simp [interactive,I.ok.kind]
noncomputable def tDrop (te:TE):TS:=fun D σ H=>te σ H fun _ H1=>D.nx σ H1
theorem ps_expr (he:PE X e te) (hs:swapsWith e none pos.line X.env=pure false:=by rfl):PS X (.Expr e pos) (tDrop te):=by
 intro pins s σ H D I h
 exact wpAny_Expr_any (thn (he pins s σ H _ I h) fun v s1 ⟨x,H1,I1,r1,q1⟩=>⟨σ,H1,I1,q1⟩) I.quiet hs
noncomputable def tRet (te:TE):TS:=fun D σ H=>te σ H D.rt
theorem ps_ret (he:PE X e te):PS X (.Return (some e) pos) (tRet te):=by
 intro pins s σ H D I h
 exact wpAny_Return_some (thn (he pins s σ H _ I h) fun v s1 ⟨x,H1,I1,r1,q1⟩=>⟨x,σ,H1,I1,r1,q1⟩)
noncomputable def tRetN:TS:=fun D _ H=>D.rt .non H
theorem ps_retN:PS X (.Return none pos) tRetN:=fun _ _ σ H _ I h=>wpAny_Return_none ⟨.non,σ,H,I,rfl,h⟩
noncomputable def tIfS (c:TT) (t u:TS):TS:=fun D σ H=>c σ H fun b H1=>if b=true then t D σ H1 else u D σ H1
theorem ps_if {c:Expr}{a b:List Stmt}{tc:TT} (hc:PT X c tc) (ha:PSs X a t) (hb:PSs X b u):PS X (.If c a b pos) (tIfS tc t u):=by
 intro pins s σ H D I h
 refine wpAny_If (thn (hc pins s σ H _ I h) fun d s1 ⟨H1,I1,q1⟩=>?_)
 cases d with
 | true=>exact ha pins s1 σ H1 D I1 q1
 | false=>exact hb pins s1 σ H1 D I1 q1
noncomputable def tNever:TS:=fun _ _ _=>False
theorem ps_never:PS X st tNever:=fun _ _ _ _ _ _ h=>h.elim
end
noncomputable abbrev TG:=V→St→Hp→(St→Hp→Prop)→Prop
noncomputable abbrev TGs:=List V→St→Hp→(St→Hp→Prop)→Prop
def PG (X:Cx) (target:Expr) (t:TG):Prop :=
 ∀ (pins:List (Addr × Obj)) (s:Shared) (σ:St) (H:Hp) (v:V) (u:Value) (Q:St→Hp→Prop),Inv X pins σ H s→RelV v u→t v σ H Q →
  wpAny (model X.prog X.w) X.A (assign target X.env u) (fun _ s'=>∃ σ' H',Inv X pins σ' H' s'∧Q σ' H') X.xe s
def PGs (X:Cx) (ts:List Expr) (t:TGs):Prop :=
 ∀ (pins:List (Addr × Obj)) (s:Shared) (σ:St) (H:Hp) (vs:List V) (us:List Value) (Q:St→Hp→Prop),Inv X pins σ H s→Vals vs us→t vs σ H Q →
  wpAny (model X.prog X.w) X.A (assignInOrder ((assignEach ts X.env).map (·.2)) us) (fun _ s'=>∃ σ' H',Inv X pins σ' H' s'∧Q σ' H') X.xe s
noncomputable abbrev TSet:=V→V→V→Hp→(Hp→Prop)→Prop
def PSet (X:Cx) (t:TSet):Prop :=
 ∀ (pins:List (Addr × Obj)) (s:Shared) (σ:St) (H:Hp) (o i v:V) (ov iv u:Value) (Q:Hp→Prop),Inv X pins σ H s→RelV o ov→RelV i iv→RelV v u→t o i v H Q →
  wpAny (model X.prog X.w) X.A (setItem ov iv u) (fun _ s'=>∃ H',Inv X pins σ H' s'∧Q H') X.xe s
section
variable {X:Cx}{pos:Pos}
noncomputable def gName (i:Nat):TG:=fun v σ H Q=>Q (σ.set i (some v)) H
theorem pg_name {i:Nat}{x:Str} (hN:X.N.Nodup) (hi:X.N[i]?=some x) (hx:Loc X.env.scope x) (hf:X.fn x=true∨X.env.scope.names.lookup x=some .local:=by first | exact .inl rfl | exact .inr rfl | assumption):PG X (.Name x pos) (gName i):=by
 intro pins s σ H v u Q I r h
 exact wpAny_assign_Name (store_ok I hN hi hx r (fun s' I'=>⟨_,H,I',h⟩) hf)
noncomputable def gNil:TGs:=fun vs σ H Q=>vs=[]∧Q σ H
noncomputable def gCons (t:TG) (u:TGs):TGs:=fun vs σ H Q=>∃ v r,vs=v::r∧t v σ H fun σ' H'=>u r σ' H' Q
theorem pgs_nil:PGs X [] gNil:=by
 intro pins s σ H vs us Q I r h
 obtain ⟨e,h⟩:=h
 subst e
 cases r
 exact assignInOrder_nil ⟨σ,H,I,h⟩
theorem pgs_cons {e:Expr}{es:List Expr}{t:TG}{u:TGs} (h1:PG X e t) (h2:PGs X es u)
  (hs:(assignEach (e::es) X.env).map (·.2)=assign e X.env::(assignEach es X.env).map (·.2):=by rfl):PGs X (e::es) (gCons t u):=by
 intro pins s σ H vs us Q I r h
 obtain ⟨v,vr,e1,h⟩:=h
 subst e1
 cases r with
 | cons r rr =>
  rw [hs]
  refine assignInOrder_cons (thn (h1 pins s σ H _ _ _ I r h) fun _ s1 ⟨σ1,H1,I1,q1⟩=>?_)
  exact h2 pins s1 σ1 H1 _ _ Q I1 rr q1
noncomputable def gTup (K:W.Frag) (n:Nat) (t:TGs):TG:=fun v σ H Q=>∃ a xs,v=.ref a∧SqT K H a xs∧xs.length=n∧t xs σ H Q
theorem pg_tup {es:List Expr}{k:Nat}{t:TGs}{n:Nat} (hc:X.calm=true) (h:PGs X es t)
  (hn:(assignEach es X.env).length=n:=by rfl) (hst:(assignEach es X.env).findIdx? (·.1)=none:=by rfl):PG X (.Tuple es k pos) (gTup X.K n t):=by
 intro pins s σ H v u Q I r hw
 obtain ⟨a,xs,e1,hq,hl,hw⟩:=hw
 subst e1
 cases r
 obtain ⟨its,rv,ht,hz⟩:=I.tuple hq
 refine assign_Tuple_tuple (I.ok.hd hc) ht (by simp [hn,← hl,rv.length]) hst fun h' hx=>?_
 have I1:Inv X pins σ H { s with heap:=h' }:=I.kept (t':=s.toks) fun b o e=>hx b o (Nat.ne_of_lt (Heap.lt_size e)) e
 exact h pins _ σ H xs _ Q I1 (by simpa using rv) hw
noncomputable def gSub (to ti:TE) (t:TSet):TG:=fun v σ H Q=>to σ H fun o H1=>ti σ H1 fun i H2=>t o i v H2 fun H3=>Q σ H3
theorem pg_sub {o i:Expr}{to ti:TE}{t:TSet} (ho:PE X o to) (hi:PE X i ti) (hs:PSet X t)
  (ha:∀ v,assign (.Subscript o i pos) X.env v=(do
   let ov ← holding [v] (eval o X.env)
   let iv ← holding [v,ov] (eval i X.env)
   standAt pos
   holding [v,ov,iv] (setItem ov iv v)
   release [v,ov,iv] []):=by intro _; rfl):PG X (.Subscript o i pos) (gSub to ti t):=by
 intro pins s σ H v u Q I r h
 rw [ha]
 refine wpAny_bind (wpAny_holding (thn (ho pins s σ H _ I h) fun ov s1 ⟨x,H1,I1,r1,q1⟩=>?_))
 refine wpAny_bind (wpAny_holding (thn (hi pins s1 σ H1 _ I1 q1) fun iv s2 ⟨y,H2,I2,r2,q2⟩=>?_))
 refine wpAny_bind (wpAny_standAt (wpAny_bind (wpAny_holding (thn (hs pins s2 σ H2 x y v ov iv u _ I2 r1 r2 r q2) fun _ s3 ⟨H3,I3,q3⟩=>?_))))
 exact wpAny_release ⟨σ,H3,I3,q3⟩
noncomputable def tAsg (te:TE) (g:TG):TS:=fun D σ H=>te σ H fun x H1=>g x σ H1 D.nx
theorem ps_asg {tg e:Expr}{te:TE}{g:TG} (he:PE X e te) (hg:PG X tg g) (hs:swapsWithSole [tg] e pos.line X.env=pure false:=by rfl) (hw:swappedStores [tg] e X.env=pure none:=by rfl)
  (h1:(assignEach [tg] X.env).map (·.2)=[assign tg X.env]:=by rfl):PS X (.Assign [tg] e pos) (tAsg te g):=by
 intro pins s σ H D I h
 refine wpAny_Assign_stores (thn (he pins s σ H _ I h) fun v s1 ⟨x,H1,I1,r1,q1⟩=>?_) hs hw
 rw [h1]
 exact thn (hg pins s1 σ H1 x v _ I1 r1 q1) fun _ s2 q=>q
end
section
variable {X:Cx}{pos:Pos}
noncomputable def tWhile (c:TT) (tb:TS):TS:=fun D σ H=>∃ W:Nat→St→Hp→Prop,(∃ m,W m σ H)∧∀ m σ H,W m σ H →
 c σ H fun b H1=>if b=true then ∃ N:St→Hp→Prop,(∀ σ' H',N σ' H'→∃ m',m'<m∧W m' σ' H')∧tb { D with nx:=N,ct:=N,bk:=D.nx } σ H1 else D.nx σ H1
theorem ps_while {c:Expr}{body:List Stmt}{tc:TT}{tb:TS} (hp:PassesOwn (model X.prog X.w) X.A X.env X.xe) (hc:PT X c tc) (hb:PSs X body tb):PS X (.While c body [] pos) (tWhile tc tb):=by
 intro pins s σ H D I h
 obtain ⟨W,⟨m0,w0⟩,turn⟩:=h
 refine wpAny_While (codeAny_whileLoop (fun n s'=>∃ σ' H',Inv X pins σ' H' s'∧W n σ' H') ?_ m0 ⟨σ,H,I,w0⟩)
 rintro n s1 ⟨σ1,H1,I1,w1⟩
 refine wpAny_passesOwn hp (thn (hc pins s1 σ1 H1 _ I1 (turn n σ1 H1 w1)) fun b s2 ⟨H2,I2,q2⟩=>?_)
 cases b with
 | true =>
  obtain ⟨N,hN,q2⟩:=q2
  rw [if_pos rfl]
  refine wpAny_passesOwn hp (thn (hb pins s2 σ1 H2 _ I2 q2) fun f s3 q3=>?_)
  cases f with
  | next =>
   obtain ⟨σ3,H3,I3,n3⟩:=q3
   obtain ⟨m',hm,w3⟩:=hN σ3 H3 n3
   exact ⟨m',hm,σ3,H3,I3,w3⟩
  | cont =>
   obtain ⟨σ3,H3,I3,n3⟩:=q3
   obtain ⟨m',hm,w3⟩:=hN σ3 H3 n3
   exact ⟨m',hm,σ3,H3,I3,w3⟩
  | brk=>exact q3
  | ret v=>exact q3
 | false =>
  rw [if_neg Bool.false_ne_true]
  exact wpAny_execs_nil ⟨σ1,H2,I2,q2⟩
end
structure It where
 go:Nat→Hp→Prop
 yld:Nat→Hp→V→Hp→Prop
 stop:Nat→Hp→Prop
def FpOk (X:Cx) (pins:List (Addr × Obj)) (H:Hp) (b:Addr):Prop :=
 H b=none∧b≠X.env.locals∧b∉X.fs∧(b∈X.ex∨X.s₀.heap.objs.size≤b)∧(∀ x c,X.env.cells.lookup x=some c→c≠b)∧∀ p∈X.pn++pins,p.1≠b
theorem Inv.fpOk {X:Cx}{pins:List (Addr × Obj)}{σ:St}{H H':Hp}{s:Shared}{b:Addr} (I:Inv X pins σ H s) (hb:s.heap.objs.size≤b) (hn:H' b=none):FpOk X pins H' b:=by
 refine ⟨hn,Nat.ne_of_gt (Nat.lt_of_lt_of_le I.lt hb),I.nofs hb,.inr (Nat.le_trans I.sz hb),fun x c e z=>?_,fun p hp z=>?_⟩
 ·obtain ⟨v,q⟩:=I.cell x c e
  exact absurd (Nat.lt_of_lt_of_le q.lt (by rw [z]; exact hb)) (Nat.lt_irrefl _)
 ·exact absurd (Nat.lt_of_lt_of_le (Heap.lt_size (I.pin p hp).1) (by rw [z]; exact hb)) (Nat.lt_irrefl _)
structure Turn (P:Program) (w:World) (K:W.Frag) (tg:Expr) (J:It) (fp:List Addr) (it:Addr) (tn:Nat→Heap→Prop):Prop where
 mem:it∈fp
 obj:∀ i h,tn i h→∀ b∈fp,∃ o,h.get? b=some o∧∀ v,o.data≠.cell v
 keep:∀ i h h',tn i h→(∀ b∈fp,∀ o,h.get? b=some o→h'.get? b=some o)→tn i h'
 item:∀ (X:Cx),X.prog=P→X.w=w→X.K=K→X.calm=true→∀ (i:Nat) (pins:List (Addr × Obj)) (s:Shared) (σ:St) (H:Hp) (E:Value→Shared→Prop),Inv X pins σ H s→(∀ b∈fp,FpOk X pins H b)→tn i s.heap→J.go i H →
  wpAny (model P w) X.A (pyNext (.ref it)) (fun r s1=>∃ u,r=some u ∧
   wpAny (model P w) X.A (letOwnedTupleGo tg (.ref it) u) (fun _ s2=>∃ x H',Inv X pins σ H' s2∧RelV x u∧J.yld i H x H'∧tn (i+1) s2.heap∧∀ b∈fp,H' b=none) E s1) E s
 done:∀ (X:Cx),X.prog=P→X.w=w→X.K=K→X.calm=true→∀ (i:Nat) (pins:List (Addr × Obj)) (s:Shared) (σ:St) (H:Hp) (E:Value→Shared→Prop),Inv X pins σ H s→(∀ b∈fp,FpOk X pins H b)→tn i s.heap→J.stop i H →
  wpAny (model P w) X.A (pyNext (.ref it)) (fun r s1=>r=none∧Inv X pins σ H s1) E s
 self:∀ (A:Around) (i:Nat) (s:Shared) (Q:Value→Shared→Prop) (E:Value→Shared→Prop),tn i s.heap→Q (.ref it) s→wpAny (model P w) A (pyIter (.ref it)) Q E s
noncomputable abbrev TI:=St→Hp→(It→Hp→Prop)→Prop
inductive PIE (X:Cx) (pins:List (Addr × Obj)) (σ:St) (tg:Expr) (R:It→Hp→Prop) (itv:Value) (s2:Shared):Prop
 | mk (it:Addr) (fp:List Addr) (tn:Nat→Heap→Prop) (J:It) (H':Hp) (e:itv=.ref it) (I:Inv X pins σ H' s2) (T:Turn X.prog X.w X.K tg J fp it tn) (t0:tn 0 s2.heap) (f:∀ b∈fp,FpOk X pins H' b) (r:R J H')
def PI (X:Cx) (tg iter:Expr) (wi:TI):Prop :=
 ∀ (pins:List (Addr × Obj)) (s:Shared) (σ:St) (H:Hp) (R:It→Hp→Prop),Inv X pins σ H s→wi σ H R →
  wpAny (model X.prog X.w) X.A (eval iter X.env) (fun v s1=>wpAny (model X.prog X.w) X.A (pyIter v) (PIE X pins σ tg R) X.xe s1) X.xe s
theorem go_of {M:Model}{A:Around}{E:Value→Shared→Prop}{s:Shared}{tg:Expr}{it:Addr}{u:Value}{o:Obj}{n:String}{vs:Array Value}{Q:Unit→Shared→Prop} (ho:s.heap.get? it=some o) (hc:o.cls=.type n) (hd:o.data=.fields vs)
    (hn:["enumerate","zip","dict_itemiterator","dict_reverseitemiterator","odict_iterator","itertools.zip_longest","itertools.pairwise"].contains n=false) (hQ:Q () s):wpAny M A (letOwnedTupleGo tg (.ref it) u) Q E s:=by
  unfold letOwnedTupleGo
  cases tg <;> first
    | exact wpAny_pure hQ
    | (cases u <;> first
        | exact wpAny_pure hQ
        | (refine wpAny_bind (wpAny_load ho ?_)
           rw [hc,hd]
           show wpAny M A (if (["enumerate","zip","dict_itemiterator","dict_reverseitemiterator","odict_iterator","itertools.zip_longest","itertools.pairwise"].contains n&&vs[0]? == some (rawInt _))=true then _ else _) Q E s
           rw [if_neg (by intro h; rw [hn,Bool.false_and] at h; cases h)]
           exact wpAny_pure hQ))
noncomputable def Itl (K:W.Frag) (a:Addr):It :=
 ⟨fun i H=>∃ xs x,SqL K H a xs∧xs[i]?=some x,fun i H x H'=>H'=H∧∀ xs,SqL K H a xs→xs[i]?=some x,fun i H=>∃ xs,SqL K H a xs∧xs.length≤i⟩
noncomputable def Itt (K:W.Frag) (a:Addr):It :=
 ⟨fun i H=>∃ xs x,SqT K H a xs∧xs[i]?=some x,fun i H x H'=>H'=H∧∀ xs,SqT K H a xs→xs[i]?=some x,fun i H=>∃ xs,SqT K H a xs∧xs.length≤i⟩
noncomputable def Itr (lo:Int) (n:Nat):It:=⟨fun i _=>i<n,fun i H x H'=>H'=H∧x=.int (lo+i),fun i _=>n≤i⟩
theorem turn_list {P:Program}{w:World}{K:W.Frag}{tg:Expr} (a it:Addr):Turn P w K tg (Itl K a) [it] it (fun i h=>h.IsListIter it a i) where
 mem:=by simp
 obj:=fun i h st b hb=>by
  have e:b=it:=by simpa using hb
  subst e
  obtain ⟨o,e,c,d⟩:=st
  exact ⟨o,e,fun v z=>by rw [d] at z; cases z⟩
 keep:=fun i h h' st k=>st.at fun o e=>k it (by simp) o e
 item:=by
  intro X hP hw hK hc i pins s σ H E I hf st hg
  subst hP hw hK
  obtain ⟨xs,x,hq,hx⟩:=hg
  obtain ⟨its,rv,p,hz⟩:=I.list hq
  obtain ⟨u,hu,ru⟩:=rv.get hx
  obtain ⟨f0,f1,f2,f3,f4,f5⟩:=hf it (by simp)
  refine wpAny_pyNext_list_item st p.isList (x:=u) (by simpa using hu) fun h' st' sb=>?_
  have I1:Inv X pins σ H { s with heap:=h' }:=I.turned (t':=s.toks) (fun b o hb e=>(sb.2 b hb).trans e) f0 f1 f3 f4 f5
  obtain ⟨o,e,c,d⟩:=id st'
  exact ⟨u,rfl,go_of (s:={ s with heap:=h' }) e c d (by decide) ⟨x,H,I1,ru,⟨rfl,fun ys hy=>by rw [I.list_inj hy hq]; exact hx⟩,st',fun b hb=>(hf b hb).1⟩⟩
 done:=by
  intro X hP hw hK hc i pins s σ H E I hf st hg
  subst hP hw hK
  obtain ⟨xs,hq,hx⟩:=hg
  obtain ⟨its,rv,p,hz⟩:=I.list hq
  obtain ⟨f0,f1,f2,f3,f4,f5⟩:=hf it (by simp)
  have hl:=rv.length
  exact wpAny_pyNext_list_end (I.ok.hd hc) st p.isList (by simp; omega) fun h' eb=>⟨rfl,I.turned (t':=s.toks) (fun b o hb e=>eb b o hb e) f0 f1 f3 f4 f5⟩
 self:=fun _ _ _ _ _ st h=>wpAny_pyIter_listiter st h
theorem turn_tuple {P:Program}{w:World}{K:W.Frag}{tg:Expr} (a it:Addr):Turn P w K tg (Itt K a) [it] it (fun i h=>h.IsTupleIter it a i) where
 mem:=by simp
 obj:=fun i h st b hb=>by
  have e:b=it:=by simpa using hb
  subst e
  obtain ⟨o,e,c,d⟩:=st
  exact ⟨o,e,fun v z=>by rw [d] at z; cases z⟩
 keep:=fun i h h' st k=>st.at fun o e=>k it (by simp) o e
 item:=by
  intro X hP hw hK hc i pins s σ H E I hf st hg
  subst hP hw hK
  obtain ⟨xs,x,hq,hx⟩:=hg
  obtain ⟨its,rv,p,hz⟩:=I.tuple hq
  obtain ⟨u,hu,ru⟩:=rv.get hx
  obtain ⟨f0,f1,f2,f3,f4,f5⟩:=hf it (by simp)
  refine wpAny_pyNext_tuple_item st (show s.heap.IsTuple a its.toArray from p) (x:=u) (by simpa using hu) fun h' st' sb=>?_
  have I1:Inv X pins σ H { s with heap:=h' }:=I.turned (t':=s.toks) (fun b o hb e=>(sb.2 b hb).trans e) f0 f1 f3 f4 f5
  obtain ⟨o,e,c,d⟩:=id st'
  exact ⟨u,rfl,go_of (s:={ s with heap:=h' }) e c d (by decide) ⟨x,H,I1,ru,⟨rfl,fun ys hy=>by rw [I.tuple_inj hy hq]; exact hx⟩,st',fun b hb=>(hf b hb).1⟩⟩
 done:=by
  intro X hP hw hK hc i pins s σ H E I hf st hg
  subst hP hw hK
  obtain ⟨xs,hq,hx⟩:=hg
  obtain ⟨its,rv,p,hz⟩:=I.tuple hq
  obtain ⟨f0,f1,f2,f3,f4,f5⟩:=hf it (by simp)
  have hl:=rv.length
  exact wpAny_pyNext_tuple_end (I.ok.hd hc) st (show s.heap.IsTuple a its.toArray from p) (by simp; omega) fun h' eb=>⟨rfl,I.turned (t':=s.toks) (fun b o hb e=>eb b o hb e) f0 f1 f3 f4 f5⟩
 self:=fun _ _ _ _ _ st h=>wpAny_pyIter_tupleiter st h
theorem turn_range {P:Program}{w:World}{K:PySem.W.Frag}{tg:Expr} (it:Addr) (lo:Int) (n:Nat):Turn P w K tg (Itr lo n) [it] it (fun i h=>IsRangeIter h it (lo+(i:Nat)*1) ((n:Int) - (i:Nat)) 1) where
 mem:=by simp
 obj:=fun i h st b hb=>by
  have e:b=it:=by simpa using hb
  subst e
  exact ⟨_,st,fun v z=>by
   have z':Data.fields _=Data.cell v:=z
   cases z'⟩
 keep:=fun i h h' st k=>k it (by simp) _ st
 item:=by
  intro X hP hw hK hc i pins s σ H E I hf st hg
  subst hP hw hK
  obtain ⟨f0,f1,f2,f3,f4,f5⟩:=hf it (by simp)
  have W:=Walks.range (prog:=X.prog) (w:=X.w) (I.ok.hd hc) it lo 1 n
  refine W.item i s _ _ hg st fun v h' tk hv st' kk=>?_
  obtain ⟨t,rfl⟩:=hv
  have I1:Inv X pins σ H { s with heap:=h',toks:=tk }:=I.turned (fun b o hb e=>kk b o (by simpa using hb) e) f0 f1 f3 f4 f5
  refine ⟨_,rfl,go_of (s:={ s with heap:=h',toks:=tk }) (n := "range_iterator") st' rfl rfl (by decide) ⟨.int (lo+i),H,I1,⟨t,?_⟩,⟨rfl,rfl⟩,st',fun b hb=>(hf b hb).1⟩⟩
  rw [Int.mul_one]
 done:=by
  intro X hP hw hK hc i pins s σ H E I hf st hg
  subst hP hw hK
  obtain ⟨f0,f1,f2,f3,f4,f5⟩:=hf it (by simp)
  exact wpAny_pyNext_range_end (I.ok.hd hc) st (by have:n≤i:=hg; omega) fun h' eb=>⟨rfl,I.turned (t':=s.toks) (fun b o hb e=>eb b o hb e) f0 f1 f3 f4 f5⟩
 self:=fun _ _ _ _ _ st h=>wpAny_pyIter_rangeiter st h
section
variable {X:Cx}{tg:Expr}
theorem range_it {pins:List (Addr × Obj)}{σ:St}{H:Hp}{s:Shared}{R:It→Hp→Prop}{E:Value→Shared→Prop}{lo hi:Int}{t u v:Tok}{tk:Nat} (I:Inv X pins σ H s) (h1:-(2 ^ 62)≤lo) (h2:lo<2 ^ 62) (h3:-(2 ^ 62)≤hi) (h4:hi<2 ^ 62)
  (q:R (Itr lo (hi - lo).toNat) H):wpAny (model X.prog X.w) X.A (pyIter (.ref s.heap.objs.size)) (PIE X pins σ tg R) E { s with heap:=s.heap.push { cls:=.type "range",data:=.fields #[.int lo t,.int hi u,.int 1 v] },toks:=tk }:=by
 refine wpAny_pyIter_range (IsRange.new ..) (small_one h1 h2 h3 h4) ?_
 have I1:Inv X pins σ H { s with heap:=s.heap.push { cls:=.type "range",data:=.fields #[.int lo t,.int hi u,.int 1 v] },toks:=tk }:=I.kept fun b o e=>Heap.get?_push_of_some _ e
 refine ⟨(s.heap.push { cls:=.type "range",data:=.fields #[.int lo t,.int hi u,.int 1 v] }).objs.size,[(s.heap.push { cls:=.type "range",data:=.fields #[.int lo t,.int hi u,.int 1 v] }).objs.size],_,_,H,rfl,
  I1.kept (t':=tk) fun b o e=>Heap.get?_push_of_some _ e,turn_range _ lo (hi - lo).toNat,?_,fun b hb=>?_,q⟩
 ·have e1:lo+((0:Nat):Int)*1=lo:=by simp
  have e2:(((hi - lo).toNat:Nat):Int) - ((0:Nat):Int)=Builtin.Range.rangeSize lo hi 1:=by rw [rangeSize_one]; split <;> omega
  show IsRangeIter _ _ (lo+((0:Nat):Int)*1) ((((hi - lo).toNat:Nat):Int) - ((0:Nat):Int)) 1
  rw [e1,e2]
  exact Heap.get?_push_size _ rfl
 ·have e:b=(s.heap.push { cls:=.type "range",data:=.fields #[.int lo t,.int hi u,.int 1 v] }).objs.size:=by simpa using hb
  subst e
  exact I1.fpOk (Nat.le_refl _) (I1.hok.fresh (Nat.le_refl _))
noncomputable def iRng1 (ta:TA):TI:=fun σ H R=>ta σ H fun vs H1=>∃ j:Int,vs=[.int j]∧-(2 ^ 62)≤j∧j<2 ^ 62∧R (Itr 0 j.toNat) H1
noncomputable def iRng2 (ta:TA):TI:=fun σ H R=>ta σ H fun vs H1=>∃ i j:Int,vs=[.int i,.int j]∧(-(2 ^ 62)≤i∧i<2 ^ 62∧-(2 ^ 62)≤j∧j<2 ^ 62)∧R (Itr i (j - i).toNat) H1
theorem pi_range1 {a:Expr}{ta:TA}{p pos:Pos} (hg:Gl X "range") (hm:X.mg "range"=none) (ha:PA X [a] ta) (hs:starEach [a] X.env=[(false,eval a X.env)]:=by rfl):PI X tg (.Call (.Name "range" p) [a] [] pos) (iRng1 ta):=by
 intro pins s σ H R I h
 refine Call_ (ld_blt I hg hm boot_range (PyProof.Rows.callWith_type1 (thn (ha pos pins s σ H _ I h) fun us s1 ⟨vs,H1,I1,r1,q1⟩=>?_) hs rfl))
 obtain ⟨j,e,q1,q2,q⟩:=q1
 subst e
 cases r1 with
 | cons r rr =>
  cases rr
  obtain ⟨t,rfl⟩:=r
  exact call_range_1 (range_it I1 (by omega) (by omega) q1 q2 (by simpa using q))
theorem pi_range2 {a b:Expr}{ta:TA}{p pos:Pos} (hg:Gl X "range") (hm:X.mg "range"=none) (ha:PA X [a,b] ta) (hs:starEach [a,b] X.env=[(false,eval a X.env),(false,eval b X.env)]:=by rfl) (hs2:starEach [b] X.env=[(false,eval b X.env)]:=by rfl) :
  PI X tg (.Call (.Name "range" p) [a,b] [] pos) (iRng2 ta):=by
 intro pins s σ H R I h
 refine Call_ (ld_blt I hg hm boot_range (PyProof.Rows.callWith_type1 (thn (ha pos pins s σ H _ I h) fun us s1 ⟨vs,H1,I1,r1,q1⟩=>?_) (by rw [hs,hs2]) (by rw [hs2]; rfl)))
 obtain ⟨i,j,e,⟨q1,q2,q3,q4⟩,q⟩:=q1
 subst e
 cases r1 with
 | cons r rr =>
  cases rr with
  | cons r' rr =>
   cases rr
   obtain ⟨t,rfl⟩:=r
   obtain ⟨t',rfl⟩:=r'
   exact call_range_2 (range_it I1 q1 q2 q3 q4 q)
noncomputable def tFor (wi:TI) (g:TG) (tb:TS):TS:=fun D σ H=>wi σ H fun J H1=>∃ W:Nat→Nat→St→Hp→Prop,(∃ m,W 0 m σ H1)∧∀ i m σ H,W i m σ H →
 (J.stop i H∧D.nx σ H)∨(J.go i H∧∃ N:St→Hp→Prop,(∀ σ' H',N σ' H'→∃ m',m'<m∧W (i+1) m' σ' H')∧∀ x H',J.yld i H x H'→g x σ H' fun σ2 H2=>tb { D with nx:=N,ct:=N,bk:=D.nx } σ2 H2)
noncomputable def pinsAt (fp:List Addr) (h:Heap):List (Addr × Obj):=fp.filterMap fun b=>(h.get? b).map fun o=>(b,o)
theorem mem_pinsAt {fp:List Addr}{h:Heap}{b:Addr}{o:Obj} (hb:b∈fp) (e:h.get? b=some o):(b,o)∈pinsAt fp h:=List.mem_filterMap.mpr ⟨b,hb,by rw [e]; rfl⟩
theorem of_pinsAt {fp:List Addr}{h:Heap}{p:Addr × Obj} (hp:p∈pinsAt fp h):p.1∈fp∧h.get? p.1=some p.2:=by
 obtain ⟨b,hb,e⟩:=List.mem_filterMap.mp hp
 cases q:h.get? b with
 | none=>rw [q] at e; cases e
 | some o =>
  rw [q] at e
  have e':(b,o)=p:=Option.some.inj e
  subst e'
  exact ⟨hb,q⟩
theorem Inv.pinned {pins:List (Addr × Obj)}{σ:St}{H:Hp}{s:Shared}{fp:List Addr} (I:Inv X pins σ H s) (hf:∀ b∈fp,FpOk X pins H b) (ho:∀ b∈fp,∃ o,s.heap.get? b=some o∧∀ v,o.data≠.cell v):Inv X (pins++pinsAt fp s.heap) σ H s :=
 I.pins_of fun p hp=>(List.mem_append.mp hp).elim (fun z=>I.pin p (List.mem_append_right _ z)) fun z=>by
  obtain ⟨hb,e⟩:=of_pinsAt z
  obtain ⟨f0,f1,f2,_⟩:=hf p.1 hb
  obtain ⟨o,e',d⟩:=ho p.1 hb
  rw [e] at e'; cases e'
  exact ⟨e,f0,f1,f2,d⟩
theorem Inv.unpinned {pins pl:List (Addr × Obj)}{σ:St}{H:Hp}{s:Shared} (I:Inv X (pins++pl) σ H s):Inv X pins σ H s:=I.pins_of fun p hp=>I.pin p (List.mem_append_right _ (List.mem_append_left _ hp))
theorem ps_for {iter:Expr}{body:List Stmt}{wi:TI}{g:TG}{tb:TS}{pos:Pos} (hp:PassesOwn (model X.prog X.w) X.A X.env X.xe) (hc:X.calm=true) (hi:PI X tg iter wi) (hg:PG X tg g) (hb:PSs X body tb)
  (hs:∀ x,foldedSetIterable iter X.env x=pure x:=by intro _; rfl):PS X (.For tg iter body [] pos) (tFor wi g tb):=by
 intro pins s σ H D I h
 refine wpAny_For (thn (hi pins s σ H _ I h) fun v s1 h1=>thn h1 fun itv s2 h2=>?_) hs
 obtain ⟨it,fp,tn,J,H2,e,I2,T,st2,f2,W,⟨m0,w0⟩,turn⟩:=h2
 subst e
 have stat:∀ {H':Hp},(∀ b∈fp,H' b=none)→∀ b∈fp,FpOk X pins H' b:=fun hn b hb=>⟨hn b hb,(f2 b hb).2⟩
 refine codeAny_forLoop_any (fun n s'=>∃ i σ' H',Inv X pins σ' H' s'∧tn i s'.heap∧(∀ b∈fp,H' b=none)∧W i n σ' H') ?_ m0 ⟨0,σ,H2,I2,st2,fun b hb=>(f2 b hb).1,w0⟩
 rintro n s3 ⟨i,σ3,H3,I3,st3,fr3,w3⟩
 rcases turn i n σ3 H3 w3 with ⟨stop,qn⟩ | ⟨go,N,hN,step⟩
 ·refine wpAny_passesOwn hp (thn (T.done X rfl rfl rfl hc i pins s3 σ3 H3 X.xe I3 (stat fr3) st3 stop) fun r s4 ⟨hr,I4⟩=>?_)
  subst hr
  exact wpAny_execs_nil ⟨σ3,H3,I4,qn⟩
 ·refine wpAny_passesOwn hp (thn (T.item X rfl rfl rfl hc i pins s3 σ3 H3 X.xe I3 (stat fr3) st3 go) fun r s4 ⟨u,hr,h4⟩=>?_)
  subst hr
  refine wpAny_passesOwn hp (thn h4 fun _ s5 ⟨x,H5,I5,r5,y5,st5,fr5⟩=>?_)
  have I5':=I5.pinned (stat fr5) (T.obj _ _ st5)
  refine wpAny_passesOwn hp (thn (hg _ s5 σ3 H5 x u _ I5' r5 (step x H5 y5)) fun _ s6 ⟨σ6,H6,I6,q6⟩=>?_)
  refine wpAny_passesOwn hp (thn (hb _ s6 σ6 H6 _ I6 q6) fun f s7 q7=>?_)
  have again:∀ {σ7:St}{H7:Hp},Inv X (pins++pinsAt fp s5.heap) σ7 H7 s7→N σ7 H7→∃ m,m<n∧∃ i σ' H',Inv X pins σ' H' s7∧tn i s7.heap∧(∀ b∈fp,H' b=none)∧W i m σ' H':=fun {σ7 H7} I7 n7=>by
   obtain ⟨m',hm,w7⟩:=hN σ7 H7 n7
   refine ⟨m',hm,i+1,σ7,H7,I7.unpinned,T.keep _ _ _ st5 fun b hb o e=>(I7.pin (b,o) (List.mem_append_right _ (List.mem_append_right _ (mem_pinsAt hb e)))).1,fun b hb=>?_,w7⟩
   obtain ⟨o,e,d⟩:=T.obj _ _ st5 b hb
   exact (I7.pin (b,o) (List.mem_append_right _ (List.mem_append_right _ (mem_pinsAt hb e)))).2.1
  cases f with
  | next=>obtain ⟨σ7,H7,I7,n7⟩:=q7; exact again I7 n7
  | cont=>obtain ⟨σ7,H7,I7,n7⟩:=q7; exact again I7 n7
  | brk=>obtain ⟨σ7,H7,I7,q7⟩:=q7; exact ⟨σ7,H7,I7.unpinned,q7⟩
  | ret v=>obtain ⟨x7,σ7,H7,I7,r7,q7⟩:=q7; exact ⟨x7,σ7,H7,I7.unpinned,r7,q7⟩
end
noncomputable abbrev R2:=V→V→Hp→VK→Prop
def OpR (X:Cx) (f:Value→Value→Sem Value) (r:R2):Prop :=
 ∀ (pins:List (Addr × Obj)) (s:Shared) (σ:St) (H:Hp) (x y:V) (v u:Value) (Q:VK),Inv X pins σ H s→RelV x v→RelV y u→r x y H Q →
  wpAny (model X.prog X.w) X.A (f v u) (EP X pins σ Q) X.xe s
def UnR (X:Cx) (f:Value→Sem Value) (r:V→Hp→VK→Prop):Prop :=
 ∀ (pins:List (Addr × Obj)) (s:Shared) (σ:St) (H:Hp) (x:V) (v:Value) (Q:VK),Inv X pins σ H s→RelV x v→r x H Q →
  wpAny (model X.prog X.w) X.A (f v) (EP X pins σ Q) X.xe s
def CallR (X:Cx) (f:Value) (r:List V→Hp→VK→Prop):Prop :=
 ∀ (pins:List (Addr × Obj)) (s:Shared) (σ:St) (H:Hp) (xs:List V) (us:List Value) (Q:VK),Inv X pins σ H s→Vals xs us→r xs H Q →
  wpAny (model X.prog X.w) X.A (call f us) (EP X pins σ Q) X.xe s
def TruR (X:Cx) (r:V→Hp→(Bool→Hp→Prop)→Prop):Prop :=
 ∀ (pins:List (Addr × Obj)) (s:Shared) (σ:St) (H:Hp) (x:V) (v:Value) (Q:Bool→Hp→Prop),Inv X pins σ H s→RelV x v→r x H Q →
  wpAny (model X.prog X.w) X.A (truthy v) (TP X pins σ Q) X.xe s
noncomputable def tOp (r:R2) (ta tb:TE):TE:=fun σ H Q=>ta σ H fun x H1=>tb σ H1 fun y H2=>r x y H2 Q
noncomputable def tUn (r:V→Hp→VK→Prop) (ta:TE):TE:=fun σ H Q=>ta σ H fun x H1=>r x H1 Q
noncomputable def rI (C:Int→Int→Prop) (g:Int→Int→V):R2:=fun x y H Q=>∃ i j,x=.int i∧y=.int j∧C i j∧Q (g i j) H
noncomputable def rI0 (g:Int→Int→V):R2:=fun x y H Q=>∃ i j,x=.int i∧y=.int j∧Q (g i j) H
noncomputable def rU (g:Int→V):V→Hp→VK→Prop:=fun x H Q=>∃ i,x=.int i∧Q (g i) H
section
variable {X:Cx}{a b c:Expr}{ta tb tc:TE}{pos:Pos}
theorem binT (ha:PE X a ta) (hb:PE X b tb) {pins:List (Addr × Obj)}{s:Shared}{σ:St}{H:Hp}{R:V→V→Hp→Prop} (I:Inv X pins σ H s)
  (h:ta σ H fun x H1=>tb σ H1 fun y H2=>R x y H2) {Q:Value→Shared→Prop}{f:Value→Value→Sem Value}
  (hf:∀ v u s2 x y H2,Inv X pins σ H2 s2→RelV x v→RelV y u→R x y H2→wpAny (model X.prog X.w) X.A (f v u) Q X.xe s2) :
  wpAny (model X.prog X.w) X.A (eval a X.env) (fun v s₁=>wpAny (model X.prog X.w) X.A (eval b X.env) (fun u s₂=>wpAny (model X.prog X.w) X.A (f v u) Q X.xe s₂) X.xe s₁) X.xe s:=by
 refine thn (ha pins s σ H _ I h) fun v s1 ⟨x,H1,I1,r1,q1⟩=>?_
 refine thn (hb pins s1 σ H1 _ I1 q1) fun u s2 ⟨y,H2,I2,r2,q2⟩=>?_
 exact hf v u s2 x y H2 I2 r1 r2 q2
theorem pe_op {op:Operator}{r:R2} (ho:OpR X (binaryOp op) r) (ha:PE X a ta) (hb:PE X b tb):PE X (.BinOp a op b pos) (tOp r ta tb):=by
 intro pins s σ H Q I h
 exact wpAny_BinOp (binT ha hb I h fun v u s2 x y H2 I2 rx ry q=>ho pins s2 σ H2 x y v u Q I2 rx ry q)
theorem pe_un {op:UnaryOp}{r:V→Hp→VK→Prop} (ho:UnR X (unaryOp op) r) (ha:PE X a ta):PE X (.UnaryOp op a pos) (tUn r ta):=by
 intro pins s σ H Q I h
 exact UnaryOp_ (thn (ha pins s σ H _ I h) fun v s1 ⟨x,H1,I1,r1,q1⟩=>ho pins s1 σ H1 x v Q I1 r1 q1)
theorem opI {f:Value→Value→Sem Value}{C:Int→Int→Prop}{g:Int→Int→Int}
  (rule:∀ (i j:Int) (t u:Tok) (s:Shared) (Q:Value→Shared→Prop) (E:Value→Shared→Prop),C i j→Q (.int (g i j) s.toks) { s with toks:=s.toks+1 }→wpAny (model X.prog X.w) X.A (f (.int i t) (.int j u)) Q E s) :
  OpR X f (rI C fun i j=>.int (g i j)):=by
 intro pins s σ H x y v u Q I rx ry h
 obtain ⟨i,j,rfl,rfl,hc,q⟩:=h
 obtain ⟨t,rfl⟩:=rx
 obtain ⟨t',rfl⟩:=ry
 exact rule i j t t' s _ _ hc ⟨.int (g i j),H,I.tok _,⟨_,rfl⟩,q⟩
theorem opI0 {f:Value→Value→Sem Value}{g:Int→Int→Int}
  (rule:∀ (i j:Int) (t u:Tok) (s:Shared) (Q:Value→Shared→Prop) (E:Value→Shared→Prop),Q (.int (g i j) s.toks) { s with toks:=s.toks+1 }→wpAny (model X.prog X.w) X.A (f (.int i t) (.int j u)) Q E s) :
  OpR X f (rI0 fun i j=>.int (g i j)):=by
 intro pins s σ H x y v u Q I rx ry h
 obtain ⟨i,j,rfl,rfl,q⟩:=h
 obtain ⟨t,rfl⟩:=rx
 obtain ⟨t',rfl⟩:=ry
 exact rule i j t t' s _ _ ⟨.int (g i j),H,I.tok _,⟨_,rfl⟩,q⟩
theorem opB0 {f:Value→Value→Sem Value}{g:Int→Int→Bool}
  (rule:∀ (i j:Int) (t u:Tok) (s:Shared) (Q:Value→Shared→Prop) (E:Value→Shared→Prop),Q (.bool (g i j)) s→wpAny (model X.prog X.w) X.A (f (.int i t) (.int j u)) Q E s) :
  OpR X f (rI0 fun i j=>.bl (g i j)):=by
 intro pins s σ H x y v u Q I rx ry h
 obtain ⟨i,j,rfl,rfl,q⟩:=h
 obtain ⟨t,rfl⟩:=rx
 obtain ⟨t',rfl⟩:=ry
 exact rule i j t t' s _ _ ⟨.bl (g i j),H,I,rfl,q⟩
def CDiv (i j:Int):Prop:=0<j∧j<1073741824
def CPow (i j:Int):Prop:=0≤j∧j≤1000000∧i.natAbs<2 ^ 64
def CMul (i j:Int):Prop:=(-(2 ^ 64)<i∧i<2 ^ 64)∨(-(2 ^ 64)<j∧j<2 ^ 64)
theorem CMul.ok {i j:Int} (h:CMul i j):IntMulOk i j:=by
 rcases h with ⟨h1,h2⟩ | ⟨h1,h2⟩
 ·exact .of_left (intBits_le_64 h1 h2)
 ·exact .of_right (intBits_le_64 h1 h2)
theorem two_pow_nn (k:Nat):(0:Int)≤2 ^ k:=by
 rw [two_pow_cast]
 exact Int.natCast_nonneg _
theorem op_add:OpR X (binaryOp .Add) (rI0 fun i j=>.int (i+j)):=opI0 fun _ _ _ _ _ _ _ q=>add_int q
theorem op_sub:OpR X (binaryOp .Sub) (rI0 fun i j=>.int (i - j)):=opI0 fun _ _ _ _ _ _ _ q=>sub_int q
theorem op_mul:OpR X (binaryOp .Mult) (rI CMul fun i j=>.int (i*j)):=opI fun _ _ _ _ _ _ _ hc q=>mul_int q hc.ok
theorem op_fdiv:OpR X (binaryOp .FloorDiv) (rI CDiv fun i j=>.int (i / j)):=opI fun i j _ _ _ _ _ hc q=>by
 have h1:(0:Int)<j:=hc.1
 have h2:j<1073741824:=hc.2
 exact floordiv_int (by omega) (by rw [Int.fdiv_eq_ediv_of_nonneg i (by omega)]; exact q) (.inl (PyProof.noPylong_small (by omega)))
theorem op_mod:OpR X (binaryOp .Mod) (rI (fun _ j=>0<j) fun i j=>.int (i % j)):=opI fun i j _ _ _ _ _ hc q=>by
 have h1:(0:Int)<j:=hc
 exact mod_int' (by omega) (by rw [Int.fmod_eq_emod_of_nonneg i (by omega)]; exact q)
theorem op_pow:OpR X (binaryOp .Pow) (rI CPow fun i j=>.int (i ^ j.toNat)):=opI fun _ _ _ _ _ _ _ hc q=>pow_int_small hc.1 hc.2.1 hc.2.2 q
theorem op_shl:OpR X (binaryOp .LShift) (rI CPow fun i j=>.int (i*2 ^ j.toNat)):=opI fun _ _ _ _ _ _ _ hc q=>lshift_int_small hc.1 hc.2.1 hc.2.2 q
theorem op_shr:OpR X (binaryOp .RShift) (rI (fun _ j=>0≤j) fun i j=>.int (i / 2 ^ j.toNat)):=opI fun i j _ _ _ _ _ hc q =>
 rshift_int hc (by rw [Int.fdiv_eq_ediv_of_nonneg i (two_pow_nn _)]; exact q)
theorem op_and:OpR X (binaryOp .BitAnd) (rI0 fun i j=>.int (Builtin.bitAnd i j)):=opI0 fun _ _ _ _ _ _ _ q=>and_int q
theorem op_or:OpR X (binaryOp .BitOr) (rI0 fun i j=>.int (Builtin.bitOr i j)):=opI0 fun _ _ _ _ _ _ _ q=>or_int q
theorem op_xor:OpR X (binaryOp .BitXor) (rI0 fun i j=>.int (Builtin.bitXor i j)):=opI0 fun _ _ _ _ _ _ _ q=>xor_int q
theorem unI {f:Value→Sem Value}{g:Int→Int}
  (rule:∀ (i:Int) (t:Tok) (s:Shared) (Q:Value→Shared→Prop) (E:Value→Shared→Prop),Q (.int (g i) s.toks) { s with toks:=s.toks+1 }→wpAny (model X.prog X.w) X.A (f (.int i t)) Q E s) :
  UnR X f (rU fun i=>.int (g i)):=by
 intro pins s σ H x v Q I rx h
 obtain ⟨i,rfl,q⟩:=h
 obtain ⟨t,rfl⟩:=rx
 exact rule i t s _ _ ⟨.int (g i),H,I.tok _,⟨_,rfl⟩,q⟩
theorem un_neg:UnR X (unaryOp .USub) (rU fun i=>.int (-i)):=unI fun _ _ _ _ _ q=>neg_int q
end
noncomputable def scal:V→V→Bool
 | .non,.non=>true | .non,.int _=>true | .int _,.non=>true | .non,.bl _=>true | .bl _,.non=>true | .non,.str _=>true | .str _,.non=>true
 | .int _,.int _=>true | .bl _,.bl _=>true | .str _,.str _=>true | .byt _,.byt _=>true
 | .int _,.str _=>true | .str _,.int _=>true | .bl _,.str _=>true | .str _,.bl _=>true
 | _,_=>false
noncomputable def rEq:R2:=fun x y H Q=>scal x y=true∧Q (.bl (decide (x=y))) H
noncomputable def rNe:R2:=fun x y H Q=>scal x y=true∧Q (.bl (!decide (x=y))) H
theorem dec_int {i j:Int}:decide (V.int i=V.int j)=(i == j):=by
 rw [Bool.eq_iff_iff]
 simp
theorem dec_bl {i j:Bool}:decide (V.bl i=V.bl j)=(i == j):=by
 rw [Bool.eq_iff_iff]
 simp
theorem dec_str {i j:Str}:decide (V.str i=V.str j)=(i == j):=by
 rw [Bool.eq_iff_iff]
 simp
theorem dec_byt {i j:Array UInt8}:decide (V.byt i=V.byt j)=(i.toList == j.toList):=by
 rw [Bool.eq_iff_iff]
 cases i
 cases j
 simp
section
variable {X:Cx}{a b c:Expr}{ta tb tc:TE}{pos:Pos}
theorem fin_bl {pins:List (Addr × Obj)}{σ:St}{H:Hp}{s:Shared}{Q:VK}{k k':Bool} (I:Inv X pins σ H s) (q:Q (.bl k) H) (e:k=k'):EP X pins σ Q (.bool k') s:=by
 subst e
 exact ⟨.bl k,H,I,rfl,q⟩
theorem op_eq:OpR X (compareOp .Eq) rEq:=by
 intro pins s σ H x y v u Q I rx ry h
 obtain ⟨hs,q⟩:=h
 cases x with
 | non =>
  cases rx
  cases y with
  | non=>cases ry; exact PySem.EqNone.eq_none_none (fin_bl I q (by simp))
  | bl j=>cases ry; exact PySem.EqNone.eq_none_bool (fin_bl I q (by simp))
  | int j=>obtain ⟨t',rfl⟩:=ry; exact PySem.EqNone.eq_none_int (fin_bl I q (by simp))
  | str j=>obtain ⟨t',rfl⟩:=ry; exact PySem.EqNone.eq_none_str (fin_bl I q (by simp))
  | _=>exact absurd (show false=true from hs) Bool.false_ne_true
 | bl i =>
  cases rx
  cases y with
  | non=>cases ry; exact PySem.EqNone.eq_bool_none (fin_bl I q (by simp))
  | bl j=>cases ry; exact eq_bool (fin_bl I q dec_bl)
  | str j=>obtain ⟨t',rfl⟩:=ry; exact PySem.EqMixed.eq_bool_str (fin_bl I q (by simp))
  | _=>exact absurd (show false=true from hs) Bool.false_ne_true
 | int i =>
  obtain ⟨t,rfl⟩:=rx
  cases y with
  | non=>cases ry; exact PySem.EqNone.eq_int_none (fin_bl I q (by simp))
  | int j=>obtain ⟨t',rfl⟩:=ry; exact eq_int (fin_bl I q dec_int)
  | str j=>obtain ⟨t',rfl⟩:=ry; exact PySem.EqMixed.eq_int_str (fin_bl I q (by simp))
  | _=>exact absurd (show false=true from hs) Bool.false_ne_true
 | str i =>
  obtain ⟨t,rfl⟩:=rx
  cases y with
  | non=>cases ry; exact PySem.EqNone.eq_str_none (fin_bl I q (by simp))
  | bl j=>cases ry; exact PySem.EqMixed.eq_str_bool (fin_bl I q (by simp))
  | int j=>obtain ⟨t',rfl⟩:=ry; exact PySem.EqMixed.eq_str_int (fin_bl I q (by simp))
  | str j=>obtain ⟨t',rfl⟩:=ry; exact eq_str (fin_bl I q dec_str)
  | _=>exact absurd (show false=true from hs) Bool.false_ne_true
 | byt i =>
  obtain ⟨t,rfl⟩:=rx
  cases y with
  | byt j=>obtain ⟨t',rfl⟩:=ry; exact W.eq_bytes (fin_bl I q dec_byt)
  | _=>exact absurd (show false=true from hs) Bool.false_ne_true
 | _=>cases y <;> exact absurd (show false=true from hs) Bool.false_ne_true
theorem op_ne:OpR X (compareOp .NotEq) rNe:=by
 intro pins s σ H x y v u Q I rx ry h
 obtain ⟨hs,q⟩:=h
 cases x with
 | non =>
  cases rx
  cases y with
  | non=>cases ry; exact PySem.EqNone.ne_none_none (fin_bl I q (by simp))
  | bl j=>cases ry; exact PySem.EqNone.ne_none_bool (fin_bl I q (by simp))
  | int j=>obtain ⟨t',rfl⟩:=ry; exact PySem.EqNone.ne_none_int (fin_bl I q (by simp))
  | str j=>obtain ⟨t',rfl⟩:=ry; exact PySem.EqNone.ne_none_str (fin_bl I q (by simp))
  | _=>exact absurd (show false=true from hs) Bool.false_ne_true
 | bl i =>
  cases rx
  cases y with
  | non=>cases ry; exact PySem.EqNone.ne_bool_none (fin_bl I q (by simp))
  | bl j=>cases ry; exact ne_bool (fin_bl I q (congrArg not dec_bl))
  | str j=>obtain ⟨t',rfl⟩:=ry; exact PySem.EqMixed.ne_bool_str (fin_bl I q (by simp))
  | _=>exact absurd (show false=true from hs) Bool.false_ne_true
 | int i =>
  obtain ⟨t,rfl⟩:=rx
  cases y with
  | non=>cases ry; exact PySem.EqNone.ne_int_none (fin_bl I q (by simp))
  | int j=>obtain ⟨t',rfl⟩:=ry; exact ne_int (fin_bl I q (congrArg not dec_int))
  | str j=>obtain ⟨t',rfl⟩:=ry; exact PySem.EqMixed.ne_int_str (fin_bl I q (by simp))
  | _=>exact absurd (show false=true from hs) Bool.false_ne_true
 | str i =>
  obtain ⟨t,rfl⟩:=rx
  cases y with
  | non=>cases ry; exact PySem.EqNone.ne_str_none (fin_bl I q (by simp))
  | bl j=>cases ry; exact PySem.EqMixed.ne_str_bool (fin_bl I q (by simp))
  | int j=>obtain ⟨t',rfl⟩:=ry; exact PySem.EqMixed.ne_str_int (fin_bl I q (by simp))
  | str j=>obtain ⟨t',rfl⟩:=ry; exact ne_str (fin_bl I q (congrArg not dec_str))
  | _=>exact absurd (show false=true from hs) Bool.false_ne_true
 | byt i =>
  obtain ⟨t,rfl⟩:=rx
  cases y with
  | byt j=>obtain ⟨t',rfl⟩:=ry; exact W.ne_bytes (fin_bl I q (congrArg not dec_byt))
  | _=>exact absurd (show false=true from hs) Bool.false_ne_true
 | _=>cases y <;> exact absurd (show false=true from hs) Bool.false_ne_true
theorem op_lt:OpR X (compareOp .Lt) (rI0 fun i j=>.bl (decide (i<j))):=opB0 fun _ _ _ _ _ _ _ q=>lt_int q
theorem op_le:OpR X (compareOp .LtE) (rI0 fun i j=>.bl (decide (i≤j))):=opB0 fun _ _ _ _ _ _ _ q=>le_int q
theorem op_gt:OpR X (compareOp .Gt) (rI0 fun i j=>.bl (decide (j<i))):=opB0 fun _ _ _ _ _ _ _ q=>gt_int q
theorem op_ge:OpR X (compareOp .GtE) (rI0 fun i j=>.bl (decide (j≤i))):=opB0 fun _ _ _ _ _ _ _ q=>ge_int q
theorem op_isN:OpR X (compareOp .Is) (fun x y H Q=>y=.non∧Q (.bl (decide (x=.non))) H):=by
 intro pins s σ H x y v u Q I rx ry h
 obtain ⟨rfl,q⟩:=h
 cases ry
 refine is_none_gen (fin_bl I q ?_)
 cases x <;> first
  | (cases rx; rfl)
  | (obtain ⟨t,rfl⟩:=rx; rfl)
theorem op_notN:OpR X (compareOp .IsNot) (fun x y H Q=>y=.non∧Q (.bl (!decide (x=.non))) H):=by
 intro pins s σ H x y v u Q I rx ry h
 obtain ⟨rfl,q⟩:=h
 cases ry
 refine isnot_none_gen (fin_bl I q ?_)
 cases x <;> first
  | (cases rx; rfl)
  | (obtain ⟨t,rfl⟩:=rx; rfl)
theorem pe_cmpR {op:CmpOp}{r:R2} (ho:OpR X (compareOp op) r) (ha:PE X a ta) (hb:PE X b tb) (hm:behindInMarks op b=false):PE X (.Compare a [op] [b] pos) (tOp r ta tb):=by
 intro pins s σ H Q I h
 exact wpAny_Compare1 (binT ha hb I h fun v u s2 x y H2 I2 rx ry q=>ho pins s2 σ H2 x y v u Q I2 rx ry q) hm
noncomputable def tTest (t:TE):TT:=fun σ H Q=>t σ H fun x H'=>∃ k,x=.bl k∧Q k H'
theorem pt_cmpR {op:CmpOp}{r:R2} (ho:OpR X (compareOp op) r) (ha:PE X a ta) (hb:PE X b tb) (hm:behindInMarks op b=false):PT X (.Compare a [op] [b] pos) (tTest (tOp r ta tb)):=by
 intro pins s σ H Q I h
 refine wpAny_isTrue_Compare1 (thn (ha pins s σ H _ I h) fun v s1 ⟨x,H1,I1,r1,q1⟩=>thn (hb pins s1 σ H1 _ I1 q1) fun u s2 ⟨y,H2,I2,r2,q2⟩ =>
  thn (ho pins s2 σ H2 x y v u _ I2 r1 r2 q2) fun c s3 ⟨z,H3,I3,r3,k,e,q3⟩=>?_) hm
 subst e
 cases r3
 exact wpAny_truthy_bool ⟨H3,I3,q3⟩
noncomputable def tChain (r r':R2) (ta tb tc:TE):TE:=fun σ H Q=>ta σ H fun x H1=>tb σ H1 fun y H2=>r x y H2 fun z H3=>∃ k,z=.bl k ∧
 (if k=true then tc σ H3 fun w' H4=>r' y w' H4 Q else Q (.bl false) H3)
theorem pe_chain {op op':CmpOp}{r r':R2} (ho:OpR X (compareOp op) r) (ho':OpR X (compareOp op') r') (ha:PE X a ta) (hb:PE X b tb) (hc:PE X c tc)
  (hm:lastMarks [op,op'] [b,c]=false:=by with_unfolding_all rfl):PE X (.Compare a [op,op'] [b,c] pos) (tChain r r' ta tb tc):=by
 intro pins s σ H Q I h
 refine Compare_chain (thn (ha pins s σ H _ I h) fun v s1 ⟨x,H1,I1,r1,q1⟩=>chain_link (thn (hb pins s1 σ H1 _ I1 q1) fun u s2 ⟨y,H2,I2,r2,q2⟩ =>
  thn (ho pins s2 σ H2 x y v u _ I2 r1 r2 q2) fun d s3 ⟨z,H3,I3,r3,k,e,q3⟩=>?_)) hm
 subst e
 cases r3
 refine wpAny_truthy_bool ?_
 cases k with
 | false=>exact ite_ff ⟨.bl false,H3,I3,rfl,q3⟩
 | true=>exact ite_tt (chain_last (thn (hc pins s3 σ H3 _ I3 q3) fun w' s4 ⟨z',H4,I4,r4,q4⟩=>ho' pins s4 σ H4 y z' u w' Q I4 r2 r4 q4))
theorem pt_chain {op op':CmpOp}{r r':R2} (ho:OpR X (compareOp op) r) (ho':OpR X (compareOp op') r') (ha:PE X a ta) (hb:PE X b tb) (hc:PE X c tc)
  (hm:lastMarks [op,op'] [b,c]=false:=by with_unfolding_all rfl):PT X (.Compare a [op,op'] [b,c] pos) (tTest (tChain r r' ta tb tc)):=by
 intro pins s σ H Q I h
 refine isTrue_chain (thn (ha pins s σ H _ I h) fun v s1 ⟨x,H1,I1,r1,q1⟩=>test_link (thn (hb pins s1 σ H1 _ I1 q1) fun u s2 ⟨y,H2,I2,r2,q2⟩ =>
  thn (ho pins s2 σ H2 x y v u _ I2 r1 r2 q2) fun d s3 ⟨z,H3,I3,r3,k,e,q3⟩=>?_)) hm
 subst e
 cases r3
 refine wpAny_truthy_bool ?_
 cases k with
 | false =>
  obtain ⟨k',e',q'⟩:=q3
  cases e'
  exact ite_ff ⟨H3,I3,q'⟩
 | true =>
  refine ite_tt (test_last (thn (hc pins s3 σ H3 _ I3 q3) fun w' s4 ⟨z',H4,I4,r4,q4⟩=>thn (ho' pins s4 σ H4 y z' u w' _ I4 r2 r4 q4) fun d' s5 ⟨z2,H5,I5,r5,k2,e2,q5⟩=>?_))
  subst e2
  cases r5
  exact wpAny_truthy_bool ⟨H5,I5,q5⟩
def TruV (K:W.Frag) (x:V) (H:Hp) (k:Bool):Prop :=
 match x with
 | .non=>k=false
 | .bl b=>k=b
 | .int i=>k=(i != 0)
 | .str y=>y.length≤sizeLine∧k=((y.length:Int) != 0)
 | .byt y=>y.size≤sizeLine∧k=((y.size:Int) != 0)
 | .ref p=>(∃ xs,SqL K H p xs∧k=!xs.isEmpty)∨(∃ xs,SqT K H p xs∧k=!xs.isEmpty)∨∃ kvs,H p=some (.dK kvs)∧k=!kvs.isEmpty
 | _=>False
theorem isEmpty_kv {κ:Type}{kvs:List (κ × V)}{vs:List (κ × Value)} (r:KV kvs vs):(!vs.isEmpty)=!kvs.isEmpty:=by
 cases r <;> rfl
theorem isEmpty_of {xs:List V}{its:List Value} (r:Vals xs its):(!its.toArray.isEmpty)=!xs.isEmpty:=by
 cases r <;> simp
theorem line63:(sizeLine:Nat)<2 ^ 63:=by rw [sizeLine_eq]; decide
theorem tru_ok:TruR X (fun x H Q=>∃ k,TruV X.K x H k∧Q k H):=by
 intro pins s σ H x v Q I rx h
 obtain ⟨k,e,q⟩:=h
 have hl:=line63
 have hs:sizeLine=16777216:=sizeLine_eq
 cases x with
 | non =>
  cases rx
  have e':k=false:=e
  subst e'
  exact truthy_none ⟨H,I,q⟩
 | bl b =>
  cases rx
  have e':k=b:=e
  subst e'
  exact wpAny_truthy_bool ⟨H,I,q⟩
 | int i =>
  obtain ⟨t,rfl⟩:=rx
  have e':k=(i != 0):=e
  subst e'
  exact PySem.P.truthy_int ⟨H,I,q⟩
 | str y =>
  obtain ⟨t,rfl⟩:=rx
  obtain ⟨hy,e'⟩:y.length≤sizeLine∧k=((y.length:Int) != 0):=e
  subst e'
  exact PySem.P.truthy_str (by omega) ⟨H,I.tok _,q⟩
 | byt y =>
  obtain ⟨t,rfl⟩:=rx
  obtain ⟨hy,e'⟩:y.size≤sizeLine∧k=((y.size:Int) != 0):=e
  subst e'
  exact W.truthy_bytes (by omega) ⟨H,I.tok _,q⟩
 | ref p =>
  cases rx
  have e':(∃ xs,SqL X.K H p xs∧k=!xs.isEmpty)∨(∃ xs,SqT X.K H p xs∧k=!xs.isEmpty)∨∃ kvs,H p=some (.dK kvs)∧k=!kvs.isEmpty:=e
  rcases e' with ⟨xs,hx,e'⟩ | ⟨xs,hx,e'⟩ | ⟨kvs,hx,e'⟩
  ·subst e'
   obtain ⟨its,r,pl,hz⟩:=I.list hx
   have hlen:=r.length
   exact wpAny_truthy_list pl.isList (by simp only [List.size_toArray]; omega) ⟨H,I.tok _,by rw [isEmpty_of r]; exact q⟩
  ·subst e'
   obtain ⟨its,r,pl,hz⟩:=I.tuple hx
   have hlen:=r.length
   exact truthy_tuple pl (by simp only [List.size_toArray]; omega) ⟨H,I.tok _,by rw [isEmpty_of r]; exact q⟩
  ·subst e'
   obtain ⟨hz,hS,vs,r,m⟩:kvs.length≤sizeLine∧(p == sysModules)=false∧∃ vs,KV kvs vs∧s.heap.DictOf (mixKind X.prog X.w) p vs:=I.hok p _ hx
   have hlen:kvs.length=vs.length:=Paired.length r
   exact wpAny_truthy_dict hS m (by omega) ⟨H,I.tok _,by rw [isEmpty_kv r]; exact q⟩
 | _=>exact (show False from e).elim
theorem pt_truth (ha:PE X a ta) (he:∀ whole,isTrue a X.env whole=(do let v ← whole; standAt a.pos; holding [v] (truthy v))) :
  PT X a (fun σ H Q=>ta σ H fun x H'=>∃ k,TruV X.K x H' k∧Q k H'):=by
 intro pins s σ H Q I h
 exact isTrue_plain (thn (ha pins s σ H _ I h) fun v s1 ⟨x,H1,I1,r1,q1⟩=>tru_ok pins s1 σ H1 x v Q I1 r1 q1) (he _)
theorem op_add_str:OpR X (binaryOp .Add) (fun x y H Q=>∃ i j,x=.str i∧y=.str j∧i.length+j.length≤sizeLine∧Q (.str (i++j)) H):=by
 intro pins s σ H x y v u Q I rx ry h
 obtain ⟨i,j,rfl,rfl,hz,q⟩:=h
 obtain ⟨t,rfl⟩:=rx
 obtain ⟨t',rfl⟩:=ry
 exact add_str (fun t' tk=>⟨.str (i++j),H,I.tok _,⟨_,rfl⟩,q⟩) hz
theorem vals1 {x:V}{us:List Value} (r:Vals [x] us):∃ u,us=[u]∧RelV x u:=by
 cases r with
 | cons r1 r2=>cases r2; exact ⟨_,rfl,r1⟩
theorem vals2 {x y:V}{us:List Value} (r:Vals [x,y] us):∃ u w',us=[u,w']∧RelV x u∧RelV y w':=by
 cases r with
 | cons r1 r2 =>
  cases r2 with
  | cons r3 r4=>cases r4; exact ⟨_,_,rfl,r1,r3⟩
theorem call_max2 (hc:X.calm=true):CallR X (.builtin "max") (fun xs H Q=>∃ i j,xs=[.int i,.int j]∧Q (.int (if j>i then j else i)) H):=by
 intro pins s σ H xs us Q I r h
 obtain ⟨i,j,rfl,q⟩:=h
 obtain ⟨u,w',rfl,⟨t,rfl⟩,⟨t',rfl⟩⟩:=vals2 r
 refine max_two_ints (I.ok.hd hc) fun h' tk k=>⟨_,H,I.kept k,?_,q⟩
 by_cases hj:j>i
 ·rw [if_pos hj,if_pos hj]; exact ⟨_,rfl⟩
 ·rw [if_neg hj,if_neg hj]; exact ⟨_,rfl⟩
theorem call_min2 (hc:X.calm=true):CallR X (.builtin "min") (fun xs H Q=>∃ i j,xs=[.int i,.int j]∧Q (.int (if j<i then j else i)) H):=by
 intro pins s σ H xs us Q I r h
 obtain ⟨i,j,rfl,q⟩:=h
 obtain ⟨u,w',rfl,⟨t,rfl⟩,⟨t',rfl⟩⟩:=vals2 r
 refine min_two_ints (I.ok.hd hc) fun h' tk k=>⟨_,H,I.kept k,?_,q⟩
 by_cases hj:j<i
 ·rw [if_pos hj,if_pos hj]; exact ⟨_,rfl⟩
 ·rw [if_neg hj,if_neg hj]; exact ⟨_,rfl⟩
theorem call_int1:CallR X (.type "int") (fun xs H Q=>(∃ i,xs=[.int i]∧Q (.int i) H)∨∃ k,xs=[.bl k]∧Q (.int (if k then 1 else 0)) H):=by
 intro pins s σ H xs us Q I r h
 rcases h with ⟨i,rfl,q⟩ | ⟨k,rfl,q⟩
 ·obtain ⟨u,rfl,t,rfl⟩:=vals1 r
  exact call_int_int ⟨.int i,H,I,⟨_,rfl⟩,q⟩
 ·obtain ⟨u,rfl,r1⟩:=vals1 r
  cases r1
  exact call_int_bool ⟨.int (if k then 1 else 0),H,I.tok _,⟨_,rfl⟩,q⟩
end
structure ObjM (h:Heap) (x dx C:Addr) (mA:Str→Option Value):Prop where
 obj:h.get? x=some (W.instObj C dx)
 ns:h.Ns1 dx mA
 ne:dx≠x
theorem RelO.some_of {v:V}{o:Option Value} (r:RelO (some v) o):∃ u,o=some u∧RelV v u:=by
 cases o with
 | none=>exact (show False from r).elim
 | some u=>exact ⟨u,rfl,r⟩
structure Cls (K:W.Frag) (C:Addr):Prop where
 pg:W.plainGet K C Str.empty=true
 hd:W.hasDictIn K C=true
 po:W.plainOver K C=true
 sa:W.findIn K (.ref C) "__setattr__"=some (some (.builtin "object.__setattr__"))
structure Con (K:W.Frag) (C:Addr) (f:Str) (v:V) (u:Value):Prop where
 at_:W.findIn K (.ref C) f=some (some u)
 rel:RelV v u
 get:W.specialIn K u "__get__"=some none
 cp:W.copiedNames.contains f=false
structure Meth (K:W.Frag) (C:Addr) (m:Str) (f:Addr):Prop where
 at_:W.findIn K (.ref C) m=some (some (.ref f))
 fn:W.isFn K (.ref f)=true
 kp:W.keepIn K (.ref f)=true
section
variable {X:Cx}{pins:List (Addr × Obj)}{σ:St}{H:Hp}{s:Shared}{A:Around}{E:Value→Shared→Prop}{Q:Value→Shared→Prop}{c:Value}{b:Bool}
inductive TyOf (K:W.Frag) (H:Hp):V→Value→Prop where
 | non:TyOf K H .non (.type "NoneType")
 | bl (x:Bool):TyOf K H (.bl x) (.type "bool")
 | int (i:Int):TyOf K H (.int i) (.type "int")
 | str (x:Str):TyOf K H (.str x) (.type "str")
 | flt (x:UInt64):TyOf K H (.flt x) (.type "float")
 | lst {a:Addr}{xs:List V} (e:H a=some (.lst xs)):TyOf K H (.ref a) (.type "list")
 | frz {a:Addr}{o:Obj}{xs:List V} (e:H a=some (.frz o (.lst xs))):TyOf K H (.ref a) (.type "list")
 | tup {a:Addr}{xs:List V} (e:H a=some (.tup xs)):TyOf K H (.ref a) (.type "tuple")
 | dK {a:Addr}{kvs:List (Key × V)} (e:H a=some (.dK kvs)):TyOf K H (.ref a) (.type "dict")
 | dT {a:Addr}{kvs:List (List Key × V)} (e:H a=some (.dT kvs)):TyOf K H (.ref a) (.type "dict")
 | ins {a C dx:Addr}{fs:List (Str × V)} (e:H a=some (.ins C dx fs)) (cl:Cls K C) (ha:W.findIn K (.ref C) "__class__"=some (some (.builtin "object.__class__")))
   (hn:W.specialIn K (.builtin "object.__class__") "__get__"=some (some (.builtin "getset_descriptor.__get__"))) (htk:W.takesIn K (.builtin "object.__class__")=some true)
   (hm:W.mroIn K C (.type "object")=some true):TyOf K H (.ref a) (.ref C)
end
structure Room (k:Nat) (A:Around):Prop where
 hd:A.handled=none
 dp:A.depth+3*k+5<recursionLimit
 un:A.units+16*k+200<cLine
 gd:A.guards=some []
theorem Room.mono {j k:Nat}{A:Around} (r:Room k A) (h:j≤k):Room j A:=⟨r.hd,by have:=r.dp; omega,by have:=r.un; omega,r.gd⟩
theorem Room.deeper {k:Nat}{A:Around} (r:Room (k+1) A) (env:Env):Room k (A.deeper env) :=
 ⟨r.hd,by have:=r.dp; show A.depth+1+3*k+5<_; omega,by have:=r.un; show A.units+3+16*k+200<_; omega,r.gd⟩
theorem Room.depth {k:Nat}{A:Around} (r:Room k A):A.depth<recursionLimit:=by have:=r.dp; omega
theorem Room.units {k:Nat}{A:Around} (r:Room k A):A.units+64<cLine:=by have:=r.un; omega
theorem Room.units0 {k:Nat}{A:Around} (r:Room k A):A.units<cLine:=by have:=r.un; omega
noncomputable def tNil:TA:=fun _ H Q=>Q [] H
noncomputable def tCons (ta:TE) (tr:TA):TA:=fun σ H Q=>ta σ H fun x H1=>tr σ H1 fun xs H2=>Q (x::xs) H2
section
variable {X:Cx}{e:Expr}{es:List Expr}{te:TE}{t:TA}{pos:Pos}
theorem pa_nil:PA X [] tNil:=fun _ _ _ _ H Q I h=>Calls.spliced_nil ⟨[],H,I,.nil,h⟩
theorem pa_cons (ha:PE X e te) (hr:PA X es t) (hs:starEach (e::es) X.env=(false,eval e X.env)::starEach es X.env:=by rfl):PA X (e::es) (tCons te t):=by
 intro pos pins s σ H Q I h
 rw [hs]
 show wpAny _ _ (spliced ((false,eval e X.env)::backTo pos (starEach es X.env))) _ _ s
 refine Calls.spliced_cons (thn (ha pins s σ H _ I h) fun u s1 ⟨x,H1,I1,r1,q1⟩=>?_)
 exact thn (hr pos pins s1 σ H1 _ I1 q1) fun us s2 ⟨xs,H2,I2,r2,q2⟩=>⟨x::xs,H2,I2,.cons r1 r2,q2⟩
noncomputable def tTup (t:TA):TE:=fun σ H Q=>t σ H fun xs H1=>xs.length≤sizeLine∧∀ p,H1 p=none→Q (.ref p) (upd H1 p (.tup xs))
noncomputable def tLst (t:TA):TE:=fun σ H Q=>t σ H fun xs H1=>xs.length≤sizeLine∧∀ p,H1 p=none→Q (.ref p) (upd H1 p (.lst xs))
theorem pe_tup {x1} (h:PA X es t):PE X (.Tuple es x1 pos) (tTup t):=by
 intro pins s σ H Q I hq
 refine wpAny_Tuple_spliced (thn (h pos pins s σ H _ I hq) fun us s1 ⟨xs,H1,I1,r,z,q⟩=>⟨by rw [← r.length]; exact z,?_⟩)
 have hf:H1 s1.heap.objs.size=none:=I1.hok.fresh (Nat.le_refl _)
 refine ⟨.ref s1.heap.objs.size,upd H1 s1.heap.objs.size (.tup xs),I1.laid (t':=s1.toks) (fun b u e=>Heap.get?_push_of_some _ e) (Nat.le_refl _) ?_,rfl,q _ hf⟩
 exact ⟨z,us,r,⟨_,Heap.get?_push_size _ rfl,rfl,_,rfl⟩⟩
theorem pe_lst (h:PA X es t):PE X (.List es pos) (tLst t):=by
 intro pins s σ H Q I hq
 refine wpAny_List_spliced (thn (h pos pins s σ H _ I hq) fun us s1 ⟨xs,H1,I1,r,z,q⟩=>⟨by rw [← r.length]; exact z,?_⟩)
 have hf:H1 s1.heap.objs.size=none:=I1.hok.fresh (Nat.le_refl _)
 refine ⟨.ref s1.heap.objs.size,upd H1 s1.heap.objs.size (.lst xs),I1.laid (t':=s1.toks) (fun b u e=>Heap.get?_push_of_some _ e) (Nat.le_refl _) ?_,rfl,q _ hf⟩
 exact ⟨z,us,0,r,Heap.get?_push_size _ rfl⟩
end
noncomputable abbrev Sp:=List V→Hp→VK→XK→Prop
noncomputable abbrev CXT:=List Env→Hp→Shared→XK→Value→Shared→Prop
structure Env0 (P:Program) (w:World) (K:W.Frag) (mg:Str→Option Value) (base:Heap) (A:Around) (outer:List Env) (s:Shared) (H:Hp):Prop where
 frames:A.frames=some outer
 mod:Mod K mg base
 bs:∀ b o,base.get? b=some o→s.heap.get? b=some o∧H b=none
 bsz:base.objs.size≤s.heap.objs.size
 funs:s.heap.FunFrames base outer
 frf:∀ b∈frs outer,H b=none
 hok:HOk P w H s.heap
 bare:AllBare s.gens
def CE (outer:List Env) (P:Program) (w:World) (H:Hp) (s:Shared) (Q:VK) (u:Value) (s':Shared):Prop :=
 ∃ v H',s'.os=s.os∧AllBare s'.gens∧Un (frs outer) [] H H' s.heap s'.heap∧HOk P w H' s'.heap∧RelV v u∧Q v H'
def CR (CX:CXT) (outer:List Env) (P:Program) (w:World) (H:Hp) (s:Shared) (Q:VK) (E:XK) (r:Result) (s':Shared):Prop :=
 match r with
 | .ok (.ret u)=>CE outer P w H s Q u s'
 | .ok _=>False
 | .error e=>CX outer H s E e s'
structure FnOk (P:Program) (w:World) (K:W.Frag) (mg:Str→Option Value) (base:Heap) (CX:CXT) (k:Nat) (f:Addr) (fd:FuncData) (ps:List Str) (sp:Sp):Prop where
 len:∀ vs H Q E,sp vs H Q E→vs.length=ps.length
 run:∀ (A:Around) (outer:List Env) (s:Shared) (H:Hp) (args:Args) (us:List Value) (vs:List V) (Q:VK) (E:XK),Room k A→Env0 P w K mg base A outer s H→BindsTo s fd args (ps.zip us)→Vals vs us→sp vs H Q E →
  codeAny (model P w) A (.call (.ref f) args) (CR CX outer P w H s Q E) s
theorem FnOk.imp {P:Program}{w:World}{K:W.Frag}{mg:Str→Option Value}{base:Heap}{CX:CXT}{k:Nat}{f:Addr}{fd:FuncData}{ps:List Str}{sp sp':Sp} (F:FnOk P w K mg base CX k f fd ps sp)
  (h:∀ vs H Q E,sp' vs H Q E→sp vs H Q E):FnOk P w K mg base CX k f fd ps sp' :=
 ⟨fun vs H Q E q=>F.len vs H Q E (h _ _ _ _ q),fun A outer s H args us vs Q E hr he hb hv hs=>F.run A outer s H args us vs Q E hr he hb hv (h _ _ _ _ hs)⟩
section
variable {X:Cx}{pins:List (Addr × Obj)}{σ:St}{H:Hp}{s s':Shared}
theorem Inv.env0 (I:Inv X pins σ H s):Env0 X.prog X.w X.K X.mg X.base X.A X.stack s H :=
 ⟨I.ok.frames,I.ok.mod,I.bs,Nat.le_trans I.ok.bsz I.sz,I.stack,I.stkFree,I.hok,I.bare⟩
theorem Inv.after {Q:VK}{u:Value} (I:Inv X pins σ H s) (h:CE X.stack X.prog X.w H s Q u s'):EP X pins σ Q u s':=by
 obtain ⟨v,H',os,bare,un,hok,r,q⟩:=h
 obtain ⟨hh,g,d,t,os'⟩:=s'
 obtain rfl:os'=s.os:=os
 exact ⟨v,H',I.call (h':=hh) (g':=g) (d':=d) (t':=t) (ch:=[]) un hok bare (fun b z=>absurd z (by simp)),r,q⟩
end
noncomputable def tCall (sp:Sp) (dvs:List V) (E:XK) (t:TA):TE:=fun σ H Q=>t σ H fun vs H1=>sp (vs++dvs) H1 Q E
def Binds (K:W.Frag) (fd:FuncData) (ps:List Str) (ds:List Value):Prop :=
 ∀ (s:Shared) (us:List Value),K.In s.heap→(us++ds).length=ps.length→BindsTo s fd ⟨us,[]⟩ (ps.zip (us++ds))
theorem Binds.all {K:W.Frag}{fd:FuncData}{ps:List Str} (h:∀ us:List Value,us.length=ps.length→bindArgs fd ⟨us,[]⟩=pure (ps.zip us)):Binds K fd ps []:=fun s us _ hl=>by
 rw [List.append_nil] at hl ⊢
 exact .of_eq (h us hl)
def Passes (CX:CXT) (X:Cx) (E:XK):Prop:=∀ (pins:List (Addr × Obj)) (σ:St) (H:Hp) (s:Shared) (e:Value) (s':Shared),Inv X pins σ H s→CX X.stack H s E e s'→X.xe e s'
section
variable {X:Cx}{CX:CXT}{k:Nat}{f C:Addr}{fd:FuncData}{ps:List Str}{sp:Sp}{dvs:List V}{ds:List Value}{E:XK}{x m:Str}{p pos apos:Pos}{e o:Expr}{es:List Expr}{ta:TE}{t:TA}
theorem run_fn {pins:List (Addr × Obj)}{σ:St}{H:Hp}{s:Shared}{Q:VK}{us:List Value}{vs:List V} (F:FnOk X.prog X.w X.K X.mg X.base CX k f fd ps sp) (hr:Room k X.A) (hb:Binds X.K fd ps ds) (hd:Vals dvs ds) (hx:Passes CX X E)
  (I:Inv X pins σ H s) (r:Vals vs us) (h:sp (vs++dvs) H Q E):wpAny (model X.prog X.w) X.A (call (.ref f) us) (EP X pins σ Q) X.xe s:=by
 have r2:Vals (vs++dvs) (us++ds):=r.append hd
 have hl:(us++ds).length=ps.length:=by rw [← r2.length]; exact F.len _ _ _ _ h
 refine wpAny_call (codeAny_mono (F.run X.A X.stack s H ⟨us,[]⟩ (us++ds) (vs++dvs) Q E hr I.env0 (hb s us I.kIn hl) r2 h) fun r s' hq=>?_)
 cases r with
 | error e=>exact hx pins σ H s e s' I hq
 | ok fl =>
  cases fl with
  | ret u=>exact I.after hq
  | next=>exact False.elim hq
  | brk=>exact False.elim hq
  | cont=>exact False.elim hq
theorem pe_call (F:FnOk X.prog X.w X.K X.mg X.base CX k f fd ps sp) (hr:Room k X.A) (hg:Gl X x) (hm:X.mg x=some (.ref f)) (hk:W.keepIn X.K (.ref f)=true) (hb:Binds X.K fd ps ds) (hd:Vals dvs ds) (hx:Passes CX X E)
  (ha:PA X (e::es) t) (hdb:(x == ("__debug__":Str))=false:=by decide) (he:starEach (e::es) X.env=(false,eval e X.env)::starEach es X.env:=by rfl) (hpl:(backTo pos (starEach es X.env)).any (·.1)=false:=by rfl) :
  PE X (.Call (.Name x p) (e::es) [] pos) (tCall sp dvs E t):=by
 intro pins s σ H Q I h
 refine wpAny_Call_Name_kw (ld_glob I hg hm ?_ hdb)
 refine W.callWith_K (h₀:=X.base) I.ok.mod.kin hk (thn (ha pos pins s σ H _ I h) fun us s1 ⟨vs,H1,I1,r,q⟩=>⟨I1.kIn,?_⟩) he hpl
 exact run_fn F hr hb hd hx I1 r q
structure Mk (K:W.Frag) (C f:Addr):Prop where
 makes:W.makesIn K C=true
 init:W.findIn K (.ref C) "__init__"=some (some (.ref f))
 fn:W.isFn K (.ref f)=true
 kp:W.keepIn K (.ref C)=true
end
section
variable {X:Cx}{CX:CXT}{k:Nat}{f C:Addr}{fd:FuncData}{ps ks:List Str}{sp:Sp}{E:XK}{x m:Str}{p pos apos kpos:Pos}{e o:Expr}{es:List Expr}{kws:List Keyword}{te ta:TE}{t tk:TA}{nm:Option Str}
structure KBinds (K:W.Frag) (fd:FuncData) (ps ks:List Str) (g:List Value→List Value→List Value) (gV:List V→List V→List V):Prop where
 to:∀ (s:Shared) (us ws:List Value),K.In s.heap→(g us ws).length=ps.length→BindsTo s fd ⟨us,ks.zip ws⟩ (ps.zip (g us ws))
 rel:∀ {vs:List V}{us:List Value}{zs:List V}{ws:List Value},Vals vs us→Vals zs ws→Vals (gV vs zs) (g us ws)
variable {g:List Value→List Value→List Value}{gV:List V→List V→List V}
end
structure FnScope (N P:List Str) (sc:Scope):Prop where
 kind:sc.kind=.function
 co:sc.isCoroutine=false
 gen:sc.isGenerator=false
 nd:N.Nodup
 pre:N.take P.length=P
 par:∀ x∈P,sc.names.lookup x=some .local∨sc.names.lookup x=some .cell
 nofree:∀ y∈sc.names,y.2≠.free
theorem bindL_out {kindOf:Str→Option NameKind}{x:Str}:∀ {binds:List (Str × Value)}{m:Str→Option Value},(∀ v,(x,v)∉binds)→bindL kindOf binds m x=m x
 | [],_,_=>rfl
 | (n,v)::r,m,h=>by
  unfold bindL
  rw [bindL_out fun w hw=>h w (List.mem_cons_of_mem _ hw)]
  split
  ·have:x≠n:=by rintro rfl; exact h v List.mem_cons_self
   simp [this]
  ·rfl
theorem bindC_out {kindOf:Str→Option NameKind}{x:Str}:∀ {binds:List (Str × Value)}{m:Str→Option Value},(∀ v,(x,v)∉binds)→bindC kindOf binds m x=m x
 | [],_,_=>rfl
 | (n,v)::r,m,h=>by
  unfold bindC
  rw [bindC_out fun w hw=>h w (List.mem_cons_of_mem _ hw)]
  split
  ·rfl
  ·have:x≠n:=by rintro rfl; exact h v List.mem_cons_self
   simp [this]
theorem bindL_get {kindOf:Str→Option NameKind}{x:Str}{v:Value}:∀ {P:List Str}{vs:List Value}{i:Nat}{m:Str→Option Value},P.Nodup→P[i]?=some x→vs[i]?=some v→kindOf x=some .local →
  bindL kindOf (P.zip vs) m x=some v
 | [],_,_,_,_,h,_,_=>by simp at h
 | _::_,[],_,_,_,_,h,_=>by simp at h
 | p::P,w::vs,0,m,nd,h1,h2,hk=>by
  simp at h1 h2; subst h1; subst h2
  show bindL kindOf ((p,w)::P.zip vs) m p=_
  unfold bindL
  rw [bindL_out fun v hv=>(List.nodup_cons.mp nd).1 (List.of_mem_zip hv).1,if_pos hk]
  simp
 | p::P,w::vs,i+1,m,nd,h1,h2,hk=>by
  show bindL kindOf ((p,w)::P.zip vs) m x=_
  unfold bindL
  exact bindL_get (i:=i) (List.nodup_cons.mp nd).2 (by simpa using h1) (by simpa using h2) hk
theorem bindC_get {kindOf:Str→Option NameKind}{x:Str}{v:Value}:∀ {P:List Str}{vs:List Value}{i:Nat}{m:Str→Option Value},P.Nodup→P[i]?=some x→vs[i]?=some v→kindOf x≠some .local →
  bindC kindOf (P.zip vs) m x=some v
 | [],_,_,_,_,h,_,_=>by simp at h
 | _::_,[],_,_,_,_,h,_=>by simp at h
 | p::P,w::vs,0,m,nd,h1,h2,hk=>by
  simp at h1 h2; subst h1; subst h2
  show bindC kindOf ((p,w)::P.zip vs) m p=_
  unfold bindC
  rw [bindC_out fun v hv=>(List.nodup_cons.mp nd).1 (List.of_mem_zip hv).1,if_neg hk]
  simp
 | p::P,w::vs,i+1,m,nd,h1,h2,hk=>by
  show bindC kindOf ((p,w)::P.zip vs) m x=_
  unfold bindC
  exact bindC_get (i:=i) (List.nodup_cons.mp nd).2 (by simpa using h1) (by simpa using h2) hk
noncomputable def start (N:List Str) (vs:List V):St:=vs.map some++List.replicate (N.length - vs.length) none
noncomputable def cxOf (CX:CXT) (P:Program) (w:World) (K:W.Frag) (mg:Str→Option Value) (base:Heap) (N:List Str) (qual:Str) (scope:Scope) (f:Addr) (cd:Value) (A:Around) (outer:List Env) (s:Shared) (H:Hp) (E:XK):Cx where
 prog:=P
 w:=w
 K:=K
 mg:=mg
 base:=base
 A:=A.deeper (envOfC qual scope s.heap.objs.size f cd)
 N:=N
 s₀:=s
 H₀:=H
 env:=envOfC qual scope s.heap.objs.size f cd
 outer:=outer
 stack:=envOfC qual scope s.heap.objs.size f cd::outer
 ex:=[]
 calm:=true
 fn:=fun _=>true
 pn:=[]
 xe:=fun e s'=>wpAny (model P w) (A.deeper (envOfC qual scope s.heap.objs.size f cd)) (leaving (envOfC qual scope s.heap.objs.size f cd) e) (fun _ s''=>CX outer H s E e s'') (fun e' s''=>CX outer H s E e' s'') s'
theorem cell_has {sc:Scope}{n:Nat}{x:Str} (h:sc.names.lookup x=some .cell):∃ c,(cellsFrom n sc.names []).lookup x=some c:=by
 have q:=W.cellsFrom_some sc.names n [] (.inl h)
 exact Option.isSome_iff_exists.mp q
theorem inv_start {CX:CXT}{P:Program}{w:World}{K:W.Frag}{mg:Str→Option Value}{base:Heap}{N ps:List Str}{qual:Str}{scope:Scope}{f:Addr}{cd:Value}{A:Around}{outer:List Env}{s s1:Shared}{H:Hp}{E:XK}{us:List Value}{vs:List V}
  (S:FnScope N ps scope) (hd:A.handled=none) (e0:Env0 P w K mg base A outer s H) (hl:vs.length=ps.length) (r:Vals vs us)
  (x:InCallC s s.heap.objs.size (bindL (envOfC qual scope s.heap.objs.size f cd).kindOf (ps.zip us) fun _=>none) (cellsFrom (s.heap.objs.size+1) scope.names []) (bindC (envOfC qual scope s.heap.objs.size f cd).kindOf (ps.zip us) fun _=>none) s1) :
  Inv (cxOf CX P w K mg base N qual scope f cd A outer s H E) [] (start N vs) H s1:=by
 have hpl:ps.length≤N.length:=by have:=congrArg List.length S.pre; rw [List.length_take] at this; omega
 obtain ⟨h1,tk,rfl,hk⟩:=x.done
 have noA:∀ b:Addr,b∉(cxOf CX P w K mg base N qual scope f cd A outer s H E).ex:=fun b z=>absurd (show b∈([]:List Addr) from z) (by simp)
 refine ⟨⟨e0.mod,S.kind,rfl,rfl,Nat.le_refl _,fun y z c h1 h2=>?_,fun y hy=>?_,fun y c _ h=>?_,fun _=>hd,Around.frames_deeper e0.frames,.inr ⟨rfl,rfl⟩,fun b z=>absurd z (noA b),e0.bs,e0.bsz,fun b _ _=>noA b,fun b z=>absurd z (noA b),e0.funs,e0.frf⟩,
  rfl,e0.bare,Un.kept hk,⟨_,x.toInCall.ns,fun i y v h1 h2 h3=>?_⟩,fun y c h=>⟨_,x.cell y c h⟩,e0.hok.fresh (Nat.le_refl _),fun y c h=>?_,fun p hp=>absurd (show p∈([]:List (Addr × Obj)) from hp) (by simp),e0.hok.kept hk,?_⟩
 ·exact name_of_addr x.apart (PySem.mem_of_lookup h1) (PySem.mem_of_lookup h2)
 ·have hy:scope.names.lookup y=some .cell∨scope.names.lookup y=some .free:=hy
  rcases hy with hy | hy
  ·exact cell_has hy
  ·exact absurd rfl (S.nofree _ (PySem.mem_of_lookup hy))
 ·exact Nat.le_of_lt (x.above y c (PySem.mem_of_lookup h))
 ·have hi:i<vs.length:=by
   unfold start at h2
   by_cases hi:i<vs.length
   ·exact hi
   ·rw [List.getElem?_append_right (by simpa using hi)] at h2
    rw [List.getElem?_replicate] at h2
    split at h2 <;> cases h2
  have ha:vs[i]?=some v:=by
   unfold start at h2
   rw [List.getElem?_append_left (by simpa using hi),List.getElem?_map] at h2
   cases e:vs[i]? with
   | none=>rw [e] at h2; cases h2
   | some a=>rw [e] at h2; cases h2; rfl
  obtain ⟨u,hu,rv⟩:=r.get ha
  have hp:ps[i]?=some y:=by
   rw [← S.pre,List.getElem?_take_of_lt (by omega)]; exact h1
  have ndP:ps.Nodup:=by rw [← S.pre]; exact S.nd.sublist (List.take_sublist _ _)
  refine ⟨u,rv,?_⟩
  rcases S.par y (List.mem_of_getElem? hp) with k | k
  ·exact .inl ⟨k,bindL_get ndP hp hu k⟩
  ·obtain ⟨c,e⟩:=cell_has (n:=s.heap.objs.size+1) k
   refine .inr ⟨.inl k,c,e,?_⟩
   have q:=x.cell y c e
   rw [bindC_get ndP hp hu (by show scope.names.lookup y≠_; rw [k]; decide)] at q
   exact q
 ·exact e0.hok.fresh (Nat.le_of_lt (x.above y c (PySem.mem_of_lookup h)))
 ·unfold start
  show _=N.length
  rw [List.length_append,List.length_map,List.length_replicate]
  omega
theorem fn_of {CX:CXT}{P:Program}{w:World}{K:W.Frag}{mg:Str→Option Value}{base:Heap}{k:Nat}{f:Addr}{name qual:Str}{params:Arguments}{body:List Stmt}{scope:Scope}{dV kV doc pm cdv ct oc:Value}{an od:Option Addr}
  {osl:Array (Option Value)}{N ps:List Str}{sp:Sp} (lk:K.lookup f=some ⟨oc,od,.func (W.fnOf name qual params body scope dV kV doc pm an cdv ct),osl⟩) (hcd:W.codeIn K cdv qual=true) (S:FnScope N ps scope)
  (len:∀ vs H Q E,sp vs H Q E→vs.length=ps.length)
  (hbody:∀ (A:Around) (outer:List Env) (s:Shared) (H:Hp) (vs:List V) (Q:VK) (E:XK),Room k (A.deeper (envOfC qual scope s.heap.objs.size f cdv))→sp vs H Q E →
   ∃ t,PSs (cxOf CX P w K mg base N qual scope f cdv A outer s H E) body t∧t { nx:=fun _ H'=>Q .non H',rt:=Q } (start N vs) H) :
  FnOk P w K mg base CX (k+1) f (W.fnOf name qual params body scope dV kV doc pm an cdv ct) ps sp:=by
 refine ⟨len,fun A outer s H args us vs Q E hr e0 hb r hsp=>?_⟩
 have hl:=len _ _ _ _ hsp
 have KX:K.In s.heap:=e0.mod.kin.keeps fun b o e=>(e0.bs b o e).1
 have lim:s.heap.NoLimit:=e0.mod.nolimit.keeps fun b o e=>(e0.bs b o e).1
 have hkind:∀ y∈ps.zip us,scope.names.lookup y.1=some .local∨(scope.names.lookup y.1=some .cell∧((cellsFrom (s.heap.objs.size+1) scope.names []).lookup y.1).isSome=true):=fun ⟨n,v⟩ hy=>by
  rcases S.par n (List.of_mem_zip hy).1 with q | q
  ·exact .inl q
  ·exact .inr ⟨q,W.cellsFrom_some _ _ _ (.inl q)⟩
 refine codeAny_call_function hr.depth (KX _ _ lk) rfl S.co S.gen rfl (W.codeRec_of KX hcd) (hb _ _ _ _ ?_)
 refine wpAny_newFunctionEnv_cells S.kind hkind fun env he s1 x=>?_
 subst he
 refine ⟨lim.keeps x.toInCall.keep,codeAny_func ?_⟩
 obtain ⟨t,ht,hq⟩:=hbody A outer s H vs Q E (hr.deeper _) hsp
 have I:Inv (cxOf CX P w K mg base N qual scope f cdv A outer s H E) [] (start N vs) H s1:=inv_start S hr.hd e0 hl r x
 refine wpAny_mono (ht [] s1 (start N vs) H _ I hq) (fun fl s' hs=>?_) fun e s' hs=>hs
 have fin:∀ {σ':St}{H':Hp}{v:V}{u:Value},Inv (cxOf CX P w K mg base N qual scope f cdv A outer s H E) [] σ' H' s'→RelV v u→Q v H'→CE outer P w H s Q u s' :=
  fun {σ' H' v u} J rv q=>⟨v,H',J.os,J.bare,J.base,J.hok,rv,q⟩
 cases fl with
 | ret u =>
  obtain ⟨v,σ',H',J,rv,q⟩:=hs
  exact fin J rv q
 | next =>
  obtain ⟨σ',H',J,q⟩:=hs
  exact fin (v:=V.non) (u:=Value.none) J rfl q
 | brk =>
  obtain ⟨_,_,_,q⟩:=hs
  exact False.elim q
 | cont =>
  obtain ⟨_,_,_,q⟩:=hs
  exact False.elim q
section
variable {X:Cx}{x:Str}{p pos:Pos}{e:Expr}{es:List Expr}{t:TA}{id T:String}{r:List V→Hp→VK→Prop}
noncomputable def tCB (r:List V→Hp→VK→Prop) (t:TA):TE:=fun σ H Q=>t σ H fun vs H1=>r vs H1 Q
theorem pe_callB (hc:CallR X (.builtin id) r) (hg:Gl X x) (hm:X.mg x=none) (hv:bootBuiltins x=some (.builtin id)) (ha:PA X (e::es) t) (hn:x ≠ "__name__":=by decide) (hdb:(x == ("__debug__":Str))=false:=by decide)
  (he:starEach (e::es) X.env=(false,eval e X.env)::starEach es X.env:=by rfl) (hpl:(backTo pos (starEach es X.env)).any (·.1)=false:=by rfl):PE X (.Call (.Name x p) (e::es) [] pos) (tCB r t):=by
 intro pins s σ H Q I h
 refine wpAny_Call_Name_kw (ld_blt I hg hm hv ?_ hn hdb)
 exact PyProof.Rows.callWith_builtin1 (thn (ha pos pins s σ H _ I h) fun us s1 ⟨vs,H1,I1,r1,q1⟩=>hc pins s1 σ H1 vs us Q I1 r1 q1) he hpl
theorem pe_callTy (hc:CallR X (.type T) r) (hg:Gl X x) (hm:X.mg x=none) (hv:bootBuiltins x=some (.type T)) (ha:PA X (e::es) t) (hn:x ≠ "__name__":=by decide) (hdb:(x == ("__debug__":Str))=false:=by decide)
  (he:starEach (e::es) X.env=(false,eval e X.env)::starEach es X.env:=by rfl) (hpl:(backTo pos (starEach es X.env)).any (·.1)=false:=by rfl):PE X (.Call (.Name x p) (e::es) [] pos) (tCB r t):=by
 intro pins s σ H Q I h
 refine wpAny_Call_Name_kw (ld_blt I hg hm hv ?_ hn hdb)
 exact PyProof.Rows.callWith_type1 (thn (ha pos pins s σ H _ I h) fun us s1 ⟨vs,H1,I1,r1,q1⟩=>hc pins s1 σ H1 vs us Q I1 r1 q1) he hpl
end
end L2
namespace HT
open PySem PyProof.Rows
section
variable {prog:Program}{w:World}{A:Around}{E:Value→Shared→Prop}{s:Shared}
theorem cat_tup {t b:Addr}{vs ws:List Value}{Q:Value→Shared→Prop} (ht:IsTup s.heap t vs.toArray) (hb:IsTup s.heap b ws.toArray) (hv:vs≠[])
  (h1:ws=[]→Q (.ref t) s) (h2:ws≠[]→Q (.ref s.heap.objs.size) { s with heap:=s.heap.push { cls:=.type "tuple",data:=.seq (vs++ws).toArray } })
  (hsz:vs.length+ws.length≤sizeLine):wpAny (model prog w) A (binaryOp .Add (.ref t) (.ref b)) Q E s:=by
 obtain ⟨⟨cls,dd,data,sl⟩,ho,hc,n,hd⟩:=id ht
 obtain ⟨⟨cls2,dd2,data2,sl2⟩,ho2,hc2,n2,hd2⟩:=id hb
 simp only at hc hd hc2 hd2
 subst hc hd hc2 hd2
 have e:vs.toArray++ws.toArray=(vs++ws).toArray:=by simp
 by_cases hw:ws=[]
 ·exact concat_meets ⟨_,ho,rfl⟩ ⟨_,ho2,rfl⟩ noFill_tuple_add seq_tuple_add PySem.F.slot_tuple_add PySem.F.entry_tuple_add (PySem.F.args_tuple_add_2 _ _)
   (tuple_addW1 t b vs.toArray ws.toArray n n2 dd dd2 sl sl2 (by simpa using hv) (by simp [hw])) ⟨ho,ho2,h1 hw⟩
 ·refine concat_meets ⟨_,ho,rfl⟩ ⟨_,ho2,rfl⟩ noFill_tuple_add seq_tuple_add PySem.F.slot_tuple_add PySem.F.entry_tuple_add (PySem.F.args_tuple_add_2 _ _)
   (tuple_addW2 t b vs.toArray ws.toArray n n2 dd dd2 sl sl2 (by simpa using hv) (by simpa using hw) (by rw [List.size_toArray,List.size_toArray]; exact hsz)) ⟨ho,ho2,?_⟩
  rw [e]
  exact h2 hw
noncomputable def sIx (n d:Nat):Option Int→Nat
 | none=>d
 | some v=>if v<0 then (v+(n:Int)).toNat else min v.toNat n
theorem sIx_none (n d:Nat):sIx n d none=d:=rfl
theorem sIx_nat (n d k:Nat):sIx n d (some (k:Int))=min k n:=by
 show (if (k:Int)<0 then ((k:Int)+(n:Int)).toNat else min (k:Int).toNat n)=min k n
 rw [if_neg (by omega),Int.toNat_natCast]
theorem sIx_le (n d:Nat) (hd:d≤n) (o:Option Int):sIx n d o≤n:=by
 cases o with
 | none=>exact hd
 | some v =>
  show (if v<0 then (v+(n:Int)).toNat else min v.toNat n)≤n
  by_cases hv:v<0
  ·rw [if_pos hv]; omega
  ·rw [if_neg hv]; exact Nat.min_le_right _ _
theorem clip_eq (v:Int) (n d:Nat):(if v<0 then max (v+(n:Int)) 0 else min v (n:Int))=((sIx n d (some v):Nat):Int):=by
 show (if v<0 then max (v+(n:Int)) 0 else min v (n:Int))=(((if v<0 then (v+(n:Int)).toNat else min v.toNat n):Nat):Int)
 by_cases hv:v<0
 ·simp only [if_pos hv]; omega
 ·simp only [if_neg hv]; omega
theorem adjust_gen (lo hi:Option Int) (n:Nat):Builtin.Slice.sliceAdjust lo hi 1 (n:Int)=(((sIx n 0 lo:Nat):Int),((sIx n n hi:Nat):Int)):=by
 have h1:¬ ((1:Int)<0):=by omega
 unfold Builtin.Slice.sliceAdjust
 simp only [h1,if_false]
 refine Prod.ext ?_ ?_
 ·cases lo with
  | none=>rfl
  | some v=>exact clip_eq v n 0
 ·cases hi with
  | none=>rfl
  | some v=>exact clip_eq v n n
theorem places_gen (i j:Nat):Builtin.Slice.slicePlaces (i:Int) (j:Int) 1=j - i:=by
 unfold Builtin.Slice.slicePlaces
 have h1:(1:Int)>0:=by omega
 simp only [h1,if_true,Int.ediv_one]
 split <;> omega
theorem slicePart_ {v:Value}{o:Option Int}{Q:Option Int→Shared→Prop} (p:IsPart v o) (h:Q o s):wpAny (model prog w) A (Builtin.Slice.slicePartIndex v) Q E s:=by
 cases p with
 | none=>exact slicePart_none h
 | int i t=>exact slicePart_int h
theorem sliceApplied_gen {sl:Addr}{vl vu:Value}{lo hi:Option Int}{n:Nat}{Q:Int × Int × Nat→Shared→Prop} (hs:s.heap.IsSliceOf sl vl vu .none) (pl:IsPart vl lo) (pu:IsPart vu hi)
  (h:Q (((sIx n 0 lo:Nat):Int),1,sIx n n hi - sIx n 0 lo) s):wpAny (model prog w) A (Builtin.Slice.sliceApplied (.ref sl) (pure (n:Int))) Q E s:=by
 obtain ⟨os,hos,hcs,hds⟩:=id hs
 unfold Builtin.Slice.sliceApplied Builtin.Slice.sliceFields
 refine wpAny_bind (wpAny_bind (wpAny_field hos hds (x:=vl) rfl (wpAny_bind (wpAny_field hos hds (x:=vu) rfl (wpAny_bind (wpAny_field hos hds (x:=.none) rfl (wpAny_pure ?_)))))))
 refine wpAny_bind (slicePart_none ?_)
 show wpAny _ _ (if ((1:Int) == 0)=true then _ else _) _ _ s
 rw [if_neg (by decide)]
 refine wpAny_bind (slicePart_ pl (wpAny_bind (slicePart_ pu (wpAny_bind (wpAny_pure ?_)))))
 show wpAny _ _ (match Builtin.Slice.sliceAdjust lo hi 1 (n:Int) with | (lo,hi)=>pure (lo,(1:Int),Builtin.Slice.slicePlaces lo hi 1)) _ _ s
 rw [adjust_gen lo hi n]
 show wpAny _ _ (pure (((sIx n 0 lo:Nat):Int),(1:Int),Builtin.Slice.slicePlaces ((sIx n 0 lo:Nat):Int) ((sIx n n hi:Nat):Int) 1)) _ _ s
 rw [places_gen]
 exact wpAny_pure h
theorem pick_gen (xs:Array Value) (i k:Nat):((List.range k).filterMap fun (m:Nat)=>xs[((i:Int)+(m:Int)*1).toNat]?).toArray=((xs.toList.drop i).take k).toArray:=by
 have e:(fun (m:Nat)=>xs[((i:Int)+(m:Int)*1).toNat]?)=fun m=>xs[i+m]?:=by
  funext m
  have:((i:Int)+(m:Int)*1).toNat=i+m:=by omega
  rw [this]
 rw [e]
 have:=pick_run xs i k
 rw [List.filterMap_map] at this
 have e2:((fun x=>xs[x]?)∘fun x=>i+x)=fun m=>xs[i+m]?:=rfl
 rw [e2] at this
 rw [this]
theorem getItem_tuple_cut {t sl:Addr}{items:Array Value}{vl vu:Value}{lo hi:Option Int}{Q:Value→Shared→Prop} (ht:IsTup s.heap t items) (hs:s.heap.IsSliceOf sl vl vu .none) (pl:IsPart vl lo) (pu:IsPart vu hi)
  (hw:¬ (sIx items.size 0 lo=0∧sIx items.size items.size hi=items.size))
  (h:Q (.ref s.heap.objs.size) { s with heap:=s.heap.push { cls:=.type "tuple",data:=.seq ((items.toList.drop (sIx items.size 0 lo)).take (sIx items.size items.size hi - sIx items.size 0 lo)).toArray } })
  (hsz:items.size≤sizeLine):wpAny (model prog w) A (getItem (.ref t) (.ref sl)) Q E s:=by
 have htake:sizeOk (.seq ((items.toList.drop (sIx items.size 0 lo)).take (sIx items.size items.size hi - sIx items.size 0 lo)).toArray):=by
  show ((items.toList.drop (sIx items.size 0 lo)).take (sIx items.size items.size hi - sIx items.size 0 lo)).toArray.size≤sizeLine
  rw [List.size_toArray,List.length_take,List.length_drop,Array.length_toList]
  omega
 have hj:sIx items.size items.size hi≤items.size:=sIx_le _ _ (Nat.le_refl _) hi
 obtain ⟨os,hos,hcs,hds⟩:=id hs
 have hTs:s.TypeIs (.ref sl) "slice":=⟨os,hos,hcs⟩
 unfold getItem
 try with_reducible refine wpAny_holding ?_
 first | refine wpAny_bind (wpAny_pure ?_) | skip
 refine wpAny_bind (wpAny_sequenceKey ht.typeIs (by decide) ?_)
 refine wpAny_bind (wpAny_callSpecial?_slot (name:=Str.ofString "__getitem__") ht.typeIs PyProof.Rows.slot_tuple_getitem
  (wpAny_call_entry PyProof.Rows.slot_tuple_getitem ht.typeIs entry_tuple_getitem ?_ (args_tuple_getitem _ _)))
 show wpAny _ _ (Builtin.Tuple.tupleItemsOf (.ref t) >>= _) _ _ s
 refine wpAny_bind (tupleItemsOf_ ht ?_)
 refine wpAny_bind (wpAny_typeOf hTs ?_)
 rw [if_pos (by decide)]
 refine wpAny_bind (sliceApplied_gen hs pl pu ?_)
 have hno:¬ ((((sIx items.size 0 lo:Nat):Int) == 0&&(1:Int) == 1&&(sIx items.size items.size hi - sIx items.size 0 lo) == items.size)=true):=by
  intro q
  rw [Bool.and_eq_true,Bool.and_eq_true] at q
  have q1:((sIx items.size 0 lo:Nat):Int)=0:=eq_of_beq q.1.1
  have q2:sIx items.size items.size hi - sIx items.size 0 lo=items.size:=eq_of_beq q.2
  exact hw ⟨by omega,by omega⟩
 show wpAny _ _ (if (((sIx items.size 0 lo:Nat):Int) == 0&&(1:Int) == 1&&(sIx items.size items.size hi - sIx items.size 0 lo) == items.size)=true then _ else _) _ _ s
 rw [if_neg hno,pick_gen]
 first
  | exact wpAny_bind (m:=Builtin.Tuple.tupleExact _) (wpAny_newObj_type (wpAny_pure ⟨_,rfl,wpAny_pure h⟩) htake)
  | exact wpAny_bind (m:=Builtin.Tuple.tupleExact _) (wpAny_newObj_type (wpAny_bind (wpAny_pure (wpAny_pure ⟨_,rfl,wpAny_pure h⟩))) htake)
  | exact wpAny_bind (wpAny_bind (m:=Builtin.Tuple.tupleExact _) (wpAny_newObj_type (wpAny_pure (wpAny_pure ⟨_,rfl,wpAny_pure h⟩)) htake))
  | exact wpAny_bind (wpAny_bind (m:=Builtin.Tuple.tupleExact _) (wpAny_newObj_type (wpAny_pure ⟨_,rfl,wpAny_pure h⟩) htake))
end
end HT
namespace L2
open PySem PySem.Spec PyProof.Rows
noncomputable abbrev TO:=St→Hp→(Option Int→Hp→Prop)→Prop
def PO (X:Cx) (e:Option Expr) (t:TO):Prop :=
 ∀ (pins:List (Addr × Obj)) (s:Shared) (σ:St) (H:Hp) (Q:Option Int→Hp→Prop),Inv X pins σ H s→t σ H Q →
  wpAny (model X.prog X.w) X.A (evalPart e X.env) (fun u s'=>∃ o H',Inv X pins σ H' s'∧IsPart u o∧Q o H') X.xe s
noncomputable def tNoPart:TO:=fun _ H Q=>Q none H
noncomputable def tPart (t:TE):TO:=fun σ H Q=>t σ H fun x H1=>∃ i,x=.int i∧Q (some i) H1
section
variable {X:Cx}{e:Expr}{te:TE}{lo hi:Option Expr}{tl th:TO}{pos p2:Pos}
theorem po_none:PO X none tNoPart:=by
 intro pins s σ H Q I h
 rw [evalPart_none]
 exact wpAny_pure ⟨none,H,I,.none,h⟩
theorem po_some (h:PE X e te):PO X (some e) (tPart te):=by
 intro pins s σ H Q I hw
 rw [evalPart_some]
 refine thn (h pins s σ H _ I hw) fun u s1 ⟨x,H1,I1,r1,q1⟩=>?_
 obtain ⟨i,rfl,q⟩:=q1
 obtain ⟨t,rfl⟩:=r1
 exact ⟨some i,H1,I1,.int i t,q⟩
def SlR (X:Cx) (r:V→Option Int→Option Int→Hp→VK→Prop):Prop :=
 ∀ (pins:List (Addr × Obj)) (s:Shared) (σ:St) (H:Hp) (x:V) (v vl vu:Value) (lo hi:Option Int) (sl:Addr) (Q:VK),Inv X pins σ H s→RelV x v→s.heap.IsSliceOf sl vl vu .none→IsPart vl lo→IsPart vu hi→r x lo hi H Q →
  ∃ T id,typeLookup (.type T) "__getitem__"=pure (some (.builtin id))∧s.TypeIs v T∧wpAny (model X.prog X.w) X.A (getItem v (.ref sl)) (EP X pins σ Q) X.xe s
noncomputable def tSl (r:V→Option Int→Option Int→Hp→VK→Prop) (te:TE) (tl th:TO):TE:=fun σ H Q=>te σ H fun x H1=>tl σ H1 fun l H2=>th σ H2 fun u H3=>r x l u H3 Q
theorem pe_slice {r:V→Option Int→Option Int→Hp→VK→Prop} (hr:SlR X r) (he:PE X e te) (hl:PO X lo tl) (hu:PO X hi th):PE X (.Subscript e (.Slice lo hi none p2) pos) (tSl r te tl th):=by
 intro pins s σ H Q I h
 refine Subscript_ (thn (he pins s σ H _ I h) fun v s1 ⟨x,H1,I1,r1,q1⟩=>?_)
 refine wpAny_Slice (thn (hl pins s1 σ H1 _ I1 q1) fun vl s2 ⟨l,H2,I2,pl,q2⟩=>thn (hu pins s2 σ H2 _ I2 q2) fun vu s3 ⟨u,H3,I3,pu,q3⟩=>?_)
 rw [evalPart_none]
 refine wpAny_pure ?_
 have I4:Inv X pins σ H3 { s3 with heap:=s3.heap.push { cls:=.type "slice",data:=.fields #[vl,vu,.none] } }:=I3.kept (t':=s3.toks) fun b ob q=>Heap.get?_push_of_some _ q
 obtain ⟨T,id,hT,ht,hg⟩:=hr pins { s3 with heap:=s3.heap.push { cls:=.type "slice",data:=.fields #[vl,vu,.none] } } σ H3 x v vl vu l u s3.heap.objs.size Q I4 r1 (Heap.IsSliceOf.new ..) pl pu q3
 show wpAny (model X.prog X.w) X.A (subscriptTail e (.Slice lo hi none p2) v (.ref s3.heap.objs.size)) (EP X pins σ Q) X.xe { s3 with heap:=s3.heap.push { cls:=.type "slice",data:=.fields #[vl,vu,.none] } }
 exact tail_any (ops:=[.ref s3.heap.objs.size,v]) ht hT hg (by with_unfolding_all rfl)
noncomputable def cutV (xs:List V) (lo hi:Option Int):List V:=(xs.drop (HT.sIx xs.length 0 lo)).take (HT.sIx xs.length xs.length hi - HT.sIx xs.length 0 lo)
theorem cutV_length (xs:List V) (lo hi:Option Int):(cutV xs lo hi).length≤xs.length:=by
 unfold cutV
 rw [List.length_take,List.length_drop]
 omega
noncomputable def rSlT (K:W.Frag):V→Option Int→Option Int→Hp→VK→Prop:=fun x lo hi H Q=>∃ a xs,x=.ref a∧SqT K H a xs ∧
 ¬ (HT.sIx xs.length 0 lo=0∧HT.sIx xs.length xs.length hi=xs.length)∧∀ p,H p=none→Q (.ref p) (upd H p (.tup (cutV xs lo hi)))
theorem sl_tup:SlR X (rSlT X.K):=by
 intro pins s σ H x v vl vu lo hi sl Q I rx hs pl pu h
 obtain ⟨a,xs,rfl,hx,hw,q⟩:=h
 cases rx
 obtain ⟨its,r,ht,hz⟩:=I.tuple hx
 have hlen:its.toArray.size=xs.length:=by rw [List.size_toArray]; exact r.length.symm
 refine ⟨"tuple",_,PyProof.Rows.slot_tuple_getitem.lookup,ht.typeIs,?_⟩
 refine HT.getItem_tuple_cut ht hs pl pu (by rw [hlen]; exact hw) ?_ (by rw [hlen]; exact hz)
 rw [hlen]
 refine ⟨.ref s.heap.objs.size,_,I.laid (t':=s.toks) (o:=.tup (cutV xs lo hi)) (fun b ob q=>Heap.get?_push_of_some _ q) (Nat.le_refl _) ?_,rfl,q _ (I.hok.fresh (Nat.le_refl _))⟩
 exact ⟨Nat.le_trans (cutV_length xs lo hi) hz,_,(r.drop (HT.sIx xs.length 0 lo)).take (HT.sIx xs.length xs.length hi - HT.sIx xs.length 0 lo),IsTup.new _ _⟩
noncomputable def rCatT (K:W.Frag):R2:=fun x y H Q=>∃ a b xs ys,x=.ref a∧y=.ref b∧SqT K H a xs∧SqT K H b ys∧xs≠[]∧xs.length+ys.length≤sizeLine ∧
 (ys=[]→Q (.ref a) H)∧(ys≠[]→∀ p,H p=none→Q (.ref p) (upd H p (.tup (xs++ys))))
theorem Vals.nil_iff {xs:List V}{us:List Value} (r:Vals xs us):us=[]↔xs=[]:=by
 cases r with
 | nil=>simp
 | cons _ _=>simp
theorem op_catT:OpR X (binaryOp .Add) (rCatT X.K):=by
 intro pins s σ H x y v u Q I rx ry h
 obtain ⟨a,b,xs,ys,rfl,rfl,ha,hb,hx,hz,q1,q2⟩:=h
 cases rx
 cases ry
 obtain ⟨its,r1,p1,_⟩:=I.tuple ha
 obtain ⟨its2,r2,p2,_⟩:=I.tuple hb
 refine HT.cat_tup p1 p2 (fun z=>hx (r1.nil_iff.mp z)) (fun z=>⟨.ref a,H,I,rfl,q1 (r2.nil_iff.mp z)⟩) (fun z=>?_) (by rw [← r1.length,← r2.length]; exact hz)
 refine ⟨.ref s.heap.objs.size,_,I.laid (t':=s.toks) (o:=.tup (xs++ys)) (fun b ob q=>Heap.get?_push_of_some _ q) (Nat.le_refl _) ?_,rfl,q2 (fun w=>z (r2.nil_iff.mpr w)) _ (I.hok.fresh (Nat.le_refl _))⟩
 exact ⟨by rw [List.length_append]; exact hz,_,r1.append r2,IsTup.new _ _⟩
end
noncomputable def ixN (n:Nat) (i:Int):Option Nat:=if 0≤i then (if i<n then some i.toNat else none) else if -(n:Int)≤i then some (i+n).toNat else none
noncomputable def atI {α:Type} (xs:List α) (i:Int):Option α:=(ixN xs.length i).bind fun j=>xs[j]?
theorem ixN_seq {n:Nat}{i:Int}{j:Nat} (h:ixN n i=some j):seqIndex? i n=some j∧j<n∧-(n:Int)≤i∧i<n:=by
 unfold ixN at h
 by_cases h0:0≤i
 ·rw [if_pos h0] at h
  by_cases h1:i<n
  ·rw [if_pos h1] at h
   have e:i.toNat=j:=Option.some.inj h
   exact ⟨by rw [seqIndex_of h0 h1,e],by omega,by omega,h1⟩
  ·rw [if_neg h1] at h; cases h
 ·rw [if_neg h0] at h
  by_cases h1:-(n:Int)≤i
  ·rw [if_pos h1] at h
   have e:(i+n).toNat=j:=Option.some.inj h
   exact ⟨by rw [seqIndex_neg (by omega) h1,e],by omega,h1,by omega⟩
  ·rw [if_neg h1] at h; cases h
theorem atI_get {α:Type}{xs:List α}{i:Int}{v:α} (h:atI xs i=some v):∃ j,seqIndex? i xs.length=some j∧xs[j]?=some v∧j<xs.length∧-(xs.length:Int)≤i∧i<xs.length:=by
 unfold atI at h
 cases e:ixN xs.length i with
 | none=>rw [e] at h; cases h
 | some j =>
  rw [e] at h
  obtain ⟨h1,h2,h3,h4⟩:=ixN_seq e
  exact ⟨j,h1,h,h2,h3,h4⟩
theorem atI_nat {α:Type}{xs:List α}{j:Nat}{v:α} (h:xs[j]?=some v):atI xs (j:Int)=some v:=by
 have hj:j<xs.length:=(List.getElem?_eq_some_iff.mp h).1
 have e:ixN xs.length (j:Int)=some j:=by
  unfold ixN
  rw [if_pos (by omega),if_pos (by omega)]; simp
 unfold atI; rw [e]; exact h
theorem atI_last {α:Type} (xs:List α) (v:α):atI (xs++[v]) (-1)=some v:=by
 have hl:(xs++[v]).length=xs.length+1:=by simp
 have e:ixN (xs++[v]).length (-1)=some xs.length:=by
  unfold ixN
  rw [hl,if_neg (by decide),if_pos (by omega)]
  congr 1
  omega
 unfold atI
 rw [e]
 show (xs++[v])[xs.length]?=some v
 simp
def PlainIx (b:Expr):Prop:=∀ o i,subscripted b false o i=operate [o,i] (getItem o i)
def IxR (X:Cx) (r:R2):Prop :=
 ∀ (value slice:Expr) (pins:List (Addr × Obj)) (s:Shared) (σ:St) (H:Hp) (x y:V) (v u:Value) (Q:VK),Inv X pins σ H s→RelV x v→RelV y u→r x y H Q →
  subscripted slice false v u=operate [v,u] (getItem v u)→wpAny (model X.prog X.w) X.A (subscriptTail value slice v u) (EP X pins σ Q) X.xe s
def MtR (X:Cx) (id:String) (r:V→List V→Hp→VK→Prop):Prop :=
 ∀ (pins:List (Addr × Obj)) (s:Shared) (σ:St) (H:Hp) (x:V) (xs:List V) (v:Value) (us:List Value) (Q:VK),Inv X pins σ H s→RelV x v→Vals xs us→r x xs H Q →
  wpAny (model X.prog X.w) X.A (call (.builtin id) (v::us)) (EP X pins σ Q) X.xe s
section
variable {X:Cx}{a b:Expr}{ta tb:TE}{pos:Pos}
theorem pe_ix {r:R2} (hr:IxR X r) (ha:PE X a ta) (hb:PE X b tb) (hs:PlainIx b):PE X (.Subscript a b pos) (tOp r ta tb):=by
 intro pins s σ H Q I h
 exact Subscript_ (binT ha hb I h fun v u s2 x y H2 I2 rx ry q=>hr a b pins s2 σ H2 x y v u Q I2 rx ry q (hs _ _))
noncomputable def rIxL (K:W.Frag):R2:=fun x y H Q=>∃ p xs i v,x=.ref p∧y=.int i∧SqL K H p xs∧atI xs i=some v∧Q v H
noncomputable def rIxT (K:W.Frag):R2:=fun x y H Q=>∃ p xs i v,x=.ref p∧y=.int i∧SqT K H p xs∧atI xs i=some v∧Q v H
theorem ix_list:IxR X (rIxL X.K):=by
 intro value slice pins s σ H x y v u Q I rx ry h hs
 obtain ⟨p,xs,i,z,rfl,rfl,hq,he,q⟩:=h
 cases rx
 obtain ⟨t,rfl⟩:=ry
 obtain ⟨its,r,pl,hz⟩:=I.list hq
 obtain ⟨j,h1,h2,h3,h4,h5⟩:=atI_get he
 obtain ⟨w,ew,rw'⟩:=r.get h2
 have hl:=r.length
 have hn:=line63
 have fin:EP X pins σ Q w s:=⟨z,H,I,rw',q⟩
 by_cases h0:0≤i
 ·have hj:i.toNat=j:=by
   rw [seqIndex_of h0 h5] at h1
   exact Option.some.inj h1
  exact item_listR pl.isList h0 (by omega) (by rw [hj]; simpa using ew) fin hs
 ·have hj:(i+(its.toArray.size:Int)).toNat=j:=by
   rw [seqIndex_neg (by omega) h4] at h1
   rw [List.size_toArray,← hl]
   exact Option.some.inj h1
  exact subscriptTail_builtinR (x:=w) pl.isList.typeIs slot_list_getitem.lookup
   (wpAny_getItem_list_neg (Q:=fun r s'=>r=w∧EP X pins σ Q r s') pl.isList (by omega) (by rw [List.size_toArray] <;> omega) (by omega) (by rw [hj]; simpa using ew) ⟨rfl,fin⟩) hs
theorem ix_tup:IxR X (rIxT X.K):=by
 intro value slice pins s σ H x y v u Q I rx ry h hs
 obtain ⟨p,xs,i,z,rfl,rfl,hq,he,q⟩:=h
 cases rx
 obtain ⟨t,rfl⟩:=ry
 obtain ⟨its,r,pl,hz⟩:=I.tuple hq
 obtain ⟨j,h1,h2,h3,h4,h5⟩:=atI_get he
 obtain ⟨w,ew,rw'⟩:=r.get h2
 have hl:=r.length
 have hn:=line63
 have fin:EP X pins σ Q w s:=⟨z,H,I,rw',q⟩
 exact subscriptTail_builtinR (x:=w) pl.typeIs slot_tuple_getitem.lookup
  (getItem_tuple (j:=j) (Q:=fun r s'=>r=w∧EP X pins σ Q r s') pl (by omega) (by omega) (by rw [List.size_toArray,← hl]; exact h1) (by simpa using ew) ⟨rfl,fin⟩) hs
theorem mapSeq_set (its:List Value) (n j:Nat) (u:Value):Obj.mapSeq (·.setIfInBounds j u) { cls:=.type "list",data:=.seq its.toArray n }={ cls:=.type "list",data:=.seq (its.set j u).toArray n }:=by
 simp [Obj.mapSeq]
theorem Inv.lst {pins:List (Addr × Obj)}{σ:St}{H:Hp}{s:Shared}{p:Addr}{xs:List V} (I:Inv X pins σ H s) (h:H p=some (.lst xs)) :
  ∃ (its:List Value) (n:Nat),Vals xs its∧s.heap.get? p=some { cls:=.type "list",data:=.seq its.toArray n }∧xs.length≤sizeLine:=by
 obtain ⟨z,its,n,r,e⟩:=I.hok p _ h
 exact ⟨its,n,r,e,z⟩
theorem Inv.lstUpd {pins:List (Addr × Obj)}{σ:St}{H:Hp}{s:Shared}{p:Addr}{xs ys:List V}{its its':List Value}{n n':Nat}{f:Obj→Obj} (I:Inv X pins σ H s) (h:H p=some (.lst xs))
  (ho:s.heap.get? p=some { cls:=.type "list",data:=.seq its.toArray n }) (hf:f { cls:=.type "list",data:=.seq its.toArray n }={ cls:=.type "list",data:=.seq its'.toArray n' }) (r:Vals ys its') (hz:ys.length≤sizeLine) (t:Nat) :
  Inv X pins σ (upd H p (.lst ys)) { s with heap:=s.heap.update p f,toks:=t }:=by
 have e:(s.heap.update p f).get? p=some { cls:=.type "list",data:=.seq its'.toArray n' }:=by
  rw [Heap.get?_update_self f ho (by rw [hf] <;> rfl),hf]
 refine I.write (x:=p) (e:=p) (by rw [h]; trivial) (.inl rfl) (fun b u hb q=>(Heap.get?_update_other _ _ (Ne.symm hb)).trans q) ⟨_,e⟩ ?_
 exact ⟨hz,its',n',r,e⟩
noncomputable def rSetL:V→V→V→Hp→(Hp→Prop)→Prop:=fun o i v H Q=>∃ p xs k j,o=.ref p∧i=.int k∧H p=some (.lst xs)∧ixN xs.length k=some j∧Q (upd H p (.lst (xs.set j v)))
theorem set_list:PSet X rSetL:=by
 intro pins s σ H o i v ov iv u Q I ro ri rv h
 obtain ⟨p,xs,k,j,rfl,rfl,hp,hj,q⟩:=h
 cases ro
 obtain ⟨t,rfl⟩:=ri
 obtain ⟨its,n,r,ho,hz⟩:=I.lst hp
 obtain ⟨h1,h2,h3,h4⟩:=ixN_seq hj
 have hl:=r.length
 have hn:=line63
 have I':Inv X pins σ (upd H p (.lst (xs.set j v))) { s with heap:=s.heap.update p (Obj.mapSeq (·.setIfInBounds j u)) } :=
  I.lstUpd hp ho (mapSeq_set its n j u) (r.set rv j) (by rw [List.length_set]; exact hz) s.toks
 by_cases h0:0≤k
 ·have hk:k.toNat=j:=by
   rw [seqIndex_of h0 h4] at h1
   exact Option.some.inj h1
  exact W.ki_setAt ho h0 (by omega) (by rw [List.size_toArray,← hl]; exact h4) (by rw [hk]; exact ⟨_,I',q⟩)
 ·have hk:(k+(its.toArray.size:Int)).toNat=j:=by
   rw [seqIndex_neg (by omega) h3] at h1
   rw [List.size_toArray,← hl]
   exact Option.some.inj h1
  exact W.ki_setBack ho (by omega) (by rw [List.size_toArray,← hl]; exact h3) (by omega) (by rw [hk]; exact ⟨_,I',q⟩)
theorem slice_bounds (lo hi:Option Int) (n:Nat):(sliceBounds lo hi none n).1=((HT.sIx n 0 lo:Nat):Int)∧(sliceBounds lo hi none n).2.1=((HT.sIx n n hi:Nat):Int)∧(sliceBounds lo hi none n).2.2=1:=by
 refine ⟨?_,?_,rfl⟩
 ·cases lo with
  | none=>simp [sliceBounds,HT.sIx]
  | some i =>
   simp only [sliceBounds,HT.sIx,Option.getD_none,show (1:Int)>0 by decide,if_true]
   by_cases h:i<0
   ·simp only [h,if_true] <;> omega
   ·simp only [h,if_false] <;> omega
 ·cases hi with
  | none=>simp [sliceBounds,HT.sIx]
  | some i =>
   simp only [sliceBounds,HT.sIx,Option.getD_none,show (1:Int)>0 by decide,if_true]
   by_cases h:i<0
   ·simp only [h,if_true] <;> omega
   ·simp only [h,if_false] <;> omega
theorem slicePick_cut (its:List Value) (lo hi:Option Int):slicePick its.toArray lo hi none=((its.drop (HT.sIx its.length 0 lo)).take (HT.sIx its.length its.length hi - HT.sIx its.length 0 lo)).toArray:=by
 obtain ⟨h1,h2,h3⟩:=slice_bounds lo hi its.toArray.size
 unfold slicePick
 rw [h1,h2,h3]
 simp only [sliceRange_one,pick_run,List.size_toArray] <;> rfl
noncomputable def rSlL (K:W.Frag):V→Option Int→Option Int→Hp→VK→Prop:=fun x lo hi H Q=>∃ a xs,x=.ref a∧SqL K H a xs∧∀ p,H p=none→Q (.ref p) (upd H p (.lst (cutV xs lo hi)))
theorem sl_list:SlR X (rSlL X.K):=by
 intro pins s σ H x v vl vu lo hi sl Q I rx hs pl pu h
 obtain ⟨a,xs,rfl,hx,q⟩:=h
 cases rx
 obtain ⟨its,r,ht,hz⟩:=I.list hx
 have hlen:=r.length
 refine ⟨"list",_,slot_list_getitem.lookup,ht.isList.typeIs,?_⟩
 refine wpAny_getItem_list_slice ht.isList hs pl pu .none (by simp) ?_ (by rw [List.size_toArray] <;> omega)
 rw [slicePick_cut,← hlen]
 refine ⟨.ref s.heap.objs.size,_,I.laid (t':=s.toks) (o:=.lst (cutV xs lo hi)) (fun b ob q=>Heap.get?_push_of_some _ q) (Nat.le_refl _) ?_,rfl,q _ (I.hok.fresh (Nat.le_refl _))⟩
 exact ⟨Nat.le_trans (cutV_length xs lo hi) hz,_,0,(r.drop (HT.sIx xs.length 0 lo)).take (HT.sIx xs.length xs.length hi - HT.sIx xs.length 0 lo),Heap.get?_push_size _ rfl⟩
noncomputable def flatV:V→Bool
 | .non=>true
 | .bl _=>true
 | .int _=>true
 | .str _=>true
 | _=>false
noncomputable def eqV:V→V→Bool
 | .non,.non=>true
 | .bl a,.bl b=>a == b
 | .bl a,.int b=>(if a then 1 else 0) == b
 | .int a,.bl b=>a == (if b then 1 else 0)
 | .int a,.int b=>a == b
 | .str a,.str b=>a == b
 | _,_=>false
theorem eqAt_V {A:Around}{s:Shared}{y x:V}{u v:Value} (ry:RelV y u) (rx:RelV x v) (fy:flatV y=true) (fx:flatV x=true):SeqAt.EqAt A s u v (eqV y x):=by
 cases y with
 | non =>
  cases ry
  cases x with
  | non=>cases rx; exact SeqAt.EqAt.same _
  | bl b=>cases rx; exact SeqAt.EqAt.none_bool b
  | int b=>obtain ⟨t,rfl⟩:=rx; exact SeqAt.EqAt.none_int b t
  | str b=>obtain ⟨t,rfl⟩:=rx; exact SeqAt.EqAt.none_str b t
  | _=>exact absurd (show false=true from fx) Bool.false_ne_true
 | bl a =>
  cases ry
  cases x with
  | non=>cases rx; exact SeqAt.EqAt.bool_none a
  | bl b=>cases rx; exact SeqAt.EqAt.bool_bool a b
  | int b=>obtain ⟨t,rfl⟩:=rx; exact SeqAt.EqAt.bool_int a b t
  | str b=>obtain ⟨t,rfl⟩:=rx; exact SeqAt.EqAt.bool_str a b t
  | _=>exact absurd (show false=true from fx) Bool.false_ne_true
 | int a =>
  obtain ⟨t',rfl⟩:=ry
  cases x with
  | non=>cases rx; exact SeqAt.EqAt.int_none a t'
  | bl b=>cases rx; exact SeqAt.EqAt.int_bool a t' b
  | int b=>obtain ⟨t,rfl⟩:=rx; exact SeqAt.EqAt.int_int a t' b t
  | str b=>obtain ⟨t,rfl⟩:=rx; exact SeqAt.EqAt.int_str a t' b t
  | _=>exact absurd (show false=true from fx) Bool.false_ne_true
 | str a =>
  obtain ⟨t',rfl⟩:=ry
  cases x with
  | non=>cases rx; exact SeqAt.EqAt.str_none a t'
  | bl b=>cases rx; exact SeqAt.EqAt.str_bool a t' b
  | int b=>obtain ⟨t,rfl⟩:=rx; exact SeqAt.EqAt.str_int a t' b t
  | str b=>obtain ⟨t,rfl⟩:=rx; exact SeqAt.EqAt.str_str a t' b t
  | _=>exact absurd (show false=true from fx) Bool.false_ne_true
 | _=>exact absurd (show false=true from fy) Bool.false_ne_true
noncomputable def eqU (x:V) (u:Value):Bool:=match u with
 | .none=>eqV .non x
 | .bool b=>eqV (.bl b) x
 | .int i _=>eqV (.int i) x
 | .str z _=>eqV (.str z) x
 | _=>false
theorem eqU_of {x y:V}{u:Value} (r:RelV y u) (f:flatV y=true):eqU x u=eqV y x:=by
 cases y with
 | non=>cases r; rfl
 | bl b=>cases r; rfl
 | int i=>obtain ⟨t,rfl⟩:=r; rfl
 | str z=>obtain ⟨t,rfl⟩:=r; rfl
 | _=>exact absurd (show false=true from f) Bool.false_ne_true
theorem any_eqU {x:V}:∀ {xs:List V}{us:List Value},Vals xs us→xs.all flatV=true→us.any (eqU x)=xs.any fun y=>eqV y x
 | _,_,.nil,_=>rfl
 | y::xs,u::us,.cons r t,f=>by
  rw [List.all_cons,Bool.and_eq_true] at f
  rw [List.any_cons,List.any_cons,eqU_of r f.1,any_eqU t f.2]
theorem mem_eqAt {A:Around}{s:Shared}{x:V}{v:Value} (rx:RelV x v) (fx:flatV x=true):∀ {xs:List V}{us:List Value},Vals xs us→xs.all flatV=true→∀ u∈us,SeqAt.EqAt A s u v (eqU x u)
 | _,_,.nil,_=>fun u hu=>by cases hu
 | y::xs,u::us,.cons r t,f=>fun u' hu=>by
  rw [List.all_cons,Bool.and_eq_true] at f
  rcases List.mem_cons.mp hu with rfl | hu
  ·rw [eqU_of r f.1]; exact eqAt_V r rx f.1 fx
  ·exact mem_eqAt rx fx t f.2 u' hu
noncomputable def inV (x:V) (xs:List V):Bool:=xs.any fun y=>eqV y x
noncomputable def rIn (K:W.Frag) (neg:Bool):R2:=fun x y H Q=>∃ p xs,y=.ref p∧(SqL K H p xs∨SqT K H p xs)∧flatV x=true∧xs.all flatV=true∧Q (.bl (if neg then !inV x xs else inV x xs)) H
theorem op_in_seq:OpR X (compareOp .In) (rIn X.K false):=by
 intro pins s σ H x y v u Q I rx ry h
 obtain ⟨p,xs,rfl,hq,fx,fs,q⟩:=h
 cases ry
 rcases hq with hq | hq
 ·obtain ⟨its,r,pl,hz⟩:=I.list hq
  refine SeqAt.in_listAt (eqU x) pl.isList (fun w hw=>mem_eqAt rx fx r fs w (by simpa using hw)) ⟨.bl _,H,I,rfl,?_⟩
  rw [show its.toArray.any (eqU x)=its.any (eqU x) by simp,any_eqU r fs]
  exact q
 ·obtain ⟨its,r,pl,hz⟩:=I.tuple hq
  refine SeqAt.in_tupleAt (eqU x) pl (fun w hw=>mem_eqAt rx fx r fs w (by simpa using hw)) ⟨.bl _,H,I,rfl,?_⟩
  rw [show its.toArray.any (eqU x)=its.any (eqU x) by simp,any_eqU r fs]
  exact q
theorem op_notIn_seq:OpR X (compareOp .NotIn) (rIn X.K true):=by
 intro pins s σ H x y v u Q I rx ry h
 obtain ⟨p,xs,rfl,hq,fx,fs,q⟩:=h
 cases ry
 rcases hq with hq | hq
 ·obtain ⟨its,r,pl,hz⟩:=I.list hq
  refine SeqAt.notIn_listAt (eqU x) pl.isList (fun w hw=>mem_eqAt rx fx r fs w (by simpa using hw)) ⟨.bl _,H,I,rfl,?_⟩
  rw [show its.toArray.any (eqU x)=its.any (eqU x) by simp,any_eqU r fs]
  exact q
 ·obtain ⟨its,r,pl,hz⟩:=I.tuple hq
  refine SeqAt.notIn_tupleAt (eqU x) pl (fun w hw=>mem_eqAt rx fx r fs w (by simpa using hw)) ⟨.bl _,H,I,rfl,?_⟩
  rw [show its.toArray.any (eqU x)=its.any (eqU x) by simp,any_eqU r fs]
  exact q
theorem call_len_seq:CallR X (.builtin "len") (fun xs H Q=>∃ p ys,xs=[.ref p]∧(SqL X.K H p ys∨SqT X.K H p ys)∧Q (.int ys.length) H):=by
 intro pins s σ H xs us Q I r h
 obtain ⟨p,ys,rfl,hq,q⟩:=h
 obtain ⟨u,rfl,rx⟩:=vals1 r
 cases rx
 have hn:=line63
 rcases hq with hq | hq
 ·obtain ⟨its,r',pl,hz⟩:=I.list hq
  have hlen:=r'.length
  exact Calls.call_len_list pl.isList (by simp only [List.size_toArray] <;> omega) ⟨.int ys.length,H,I.tok _,⟨s.toks+1,by rw [List.size_toArray,hlen]⟩,q⟩
 ·obtain ⟨its,r',pl,hz⟩:=I.tuple hq
  have hlen:=r'.length
  exact len_tuple pl (by simp only [List.size_toArray] <;> omega) ⟨.int ys.length,H,I.tok _,⟨s.toks+1,by rw [List.size_toArray,hlen]⟩,q⟩
theorem call_len_str:CallR X (.builtin "len") (fun xs H Q=>∃ z,xs=[.str z]∧z.length≤sizeLine∧Q (.int z.length) H):=by
 intro pins s σ H xs us Q I r h
 obtain ⟨z,rfl,hz,q⟩:=h
 obtain ⟨u,rfl,t,rfl⟩:=vals1 r
 have hn:=line63
 exact len_str (by omega) ⟨.int z.length,H,I.tok _,⟨_,rfl⟩,q⟩
theorem call_list_of:CallR X (.type "list") (fun xs H Q=>∃ p ys,xs=[.ref p]∧(SqL X.K H p ys∨SqT X.K H p ys)∧∀ l,H l=none→Q (.ref l) (upd H l (.lst ys))):=by
 intro pins s σ H xs us Q I r h
 obtain ⟨p,ys,rfl,hq,q⟩:=h
 obtain ⟨u,rfl,rx⟩:=vals1 r
 cases rx
 have fin:∀ (its:List Value),Vals ys its→ys.length≤sizeLine→∀ (h':Heap) (c':Nat),(∀ b o',s.heap.get? b=some o'→h'.get? b=some o') →
   h'.get? s.heap.objs.size=some { cls:=.type "list",dict:=none,data:=.seq its.toArray c',slots:=#[] }→EP X pins σ Q (.ref s.heap.objs.size) { s with heap:=h' }:=fun its r' hz h' c' kp e =>
  ⟨.ref s.heap.objs.size,_,I.laid (t':=s.toks) kp (Nat.le_refl _) (show ObjOk X.prog X.w _ h' _ (.lst ys) from ⟨hz,its,c',r',e⟩),rfl,q _ (I.hok.fresh (Nat.le_refl _))⟩
 rcases hq with hq | hq
 ·obtain ⟨its,r',pl,hz⟩:=I.list hq
  have hlen:=r'.length
  obtain ⟨o,ho,hc,n,hd⟩:=pl.isList
  exact call_list_seq p (.inl rfl) ho hc hd (fun h' c' kp e=>fin its r' hz h' c' kp e) (by simp only [List.size_toArray] <;> omega)
 ·obtain ⟨its,r',pl,hz⟩:=I.tuple hq
  have hlen:=r'.length
  obtain ⟨o,ho,hc,n,hd⟩:=pl
  exact call_list_seq p (.inr rfl) ho hc hd (fun h' c' kp e=>fin its r' hz h' c' kp e) (by simp only [List.size_toArray] <;> omega)
theorem call_tuple_of:CallR X (.type "tuple") (fun xs H Q=>∃ p ys,xs=[.ref p]∧((SqL X.K H p ys∧∀ l,H l=none→Q (.ref l) (upd H l (.tup ys)))∨(SqT X.K H p ys∧Q (.ref p) H))):=by
 intro pins s σ H xs us Q I r h
 obtain ⟨p,ys,rfl,h⟩:=h
 obtain ⟨u,rfl,rx⟩:=vals1 r
 cases rx
 rcases h with ⟨hq,q⟩ | ⟨hq,q⟩
 ·obtain ⟨its,r',pl,hz⟩:=I.list hq
  have hlen:=r'.length
  refine call_tuple_list pl.isList (fun h' kp=>?_) (by simp only [List.size_toArray] <;> omega)
  have I1:Inv X pins σ H { s with heap:=h' }:=I.kept (t':=s.toks) kp
  have I2:Inv X pins σ (upd H h'.objs.size (.tup ys)) { s with heap:=h'.push { cls:=.type "tuple",data:=.seq its.toArray } } :=
   I1.laid (t':=s.toks) (fun b o e=>Heap.get?_push_of_some _ e) (Nat.le_refl _) (show ObjOk X.prog X.w _ _ _ (.tup ys) from ⟨hz,its,r',IsTup.new _ _⟩)
  exact ⟨.ref h'.objs.size,_,I2,rfl,q _ (I1.hok.fresh (Nat.le_refl _))⟩
 ·obtain ⟨its,r',pl,hz⟩:=I.tuple hq
  exact call_tuple_same pl ⟨.ref p,H,I,rfl,q⟩
def tyV (K:W.Frag) (T:String) (x:V) (H:Hp):Prop:=match x with
 | .str _=>T = "str"
 | .int _=>T = "int"
 | .ref p=>(T = "list"∧∃ xs,SqL K H p xs)∨(T = "tuple"∧∃ o,K.lookup p=some o∧o.cls=.type "tuple"∧o.dict=none) ∨
   (T = "dict"∧((∃ kvs,H p=some (.dK kvs))∨∃ kvs,H p=some (.dT kvs)))∨(T = "set"∧∃ S n,H p=some (.set S n))
 | _=>False
theorem tyV_is {pins:List (Addr × Obj)}{σ:St}{H:Hp}{s:Shared}{T:String}{x:V}{v:Value} (I:Inv X pins σ H s) (r:RelV x v) (ty:tyV X.K T x H) :
  s.TypeIs v T∧∀ a,v=.ref a→∃ ob,s.heap.get? a=some ob∧ob.dict=none:=by
 cases x with
 | str z =>
  obtain ⟨t,rfl⟩:=r
  cases (show T = "str" from ty)
  exact ⟨typeIs_str s z t,fun _ e=>nomatch e⟩
 | int i =>
  obtain ⟨t,rfl⟩:=r
  cases (show T = "int" from ty)
  exact ⟨typeIs_int s i t,fun _ e=>nomatch e⟩
 | ref p =>
  cases r
  rcases ty with ⟨rfl,xs,hq⟩ | ⟨rfl,o,hk,hc,hd⟩ | ⟨rfl,hk⟩ | ⟨rfl,S,n,hk⟩
  ·obtain ⟨its,_,pl,_⟩:=I.list hq
   refine ⟨pl.isList.typeIs,fun a e=>?_⟩
   cases e
   obtain ⟨o,n,e,c,hd,_⟩:=pl
   exact ⟨o,e,hd⟩
  ·refine ⟨⟨o,I.kIn p o hk,hc⟩,fun a e=>?_⟩
   cases e
   exact ⟨o,I.kIn _ o hk,hd⟩
  ·have z:∃ o,s.heap.get? p=some o∧o.ExactDict:=by
    rcases hk with ⟨kvs,hk⟩ | ⟨kvs,hk⟩
    ·obtain ⟨_,_,_,_,o,_,_,e,ex,_⟩:=I.hok p _ hk
     exact ⟨o,e,ex⟩
    ·obtain ⟨_,_,_,_,o,_,_,e,ex,_⟩:=I.hok p _ hk
     exact ⟨o,e,ex⟩
   obtain ⟨o,e,ex⟩:=z
   refine ⟨⟨o,e,ex.1⟩,fun a e2=>?_⟩
   cases e2
   exact ⟨o,e,ex.2.1⟩
  ·obtain ⟨o,_,_,_,e,ex,_⟩:=I.hok p _ hk
   refine ⟨⟨o,e,ex.1⟩,fun a e2=>?_⟩
   cases e2
   exact ⟨o,e,ex.2.1⟩
 | _=>exact False.elim ty
noncomputable def tBM0 (K:W.Frag) (T:String) (r:V→List V→Hp→VK→Prop) (to:TE):TE:=fun σ H Q=>to σ H fun x H1=>tyV K T x H1∧r x [] H1 Q
noncomputable def tBM (K:W.Frag) (T:String) (r:V→List V→Hp→VK→Prop) (to:TE) (t:TA):TE:=fun σ H Q=>to σ H fun x H1=>tyV K T x H1∧t σ H1 fun xs H2=>r x xs H2 Q
variable {o e:Expr}{es:List Expr}{to:TE}{t:TA}{name:Str}{apos cpos:Pos}{T id:String}{r:V→List V→Hp→VK→Prop}
theorem pe_bm0 (pa:PlainAttrs T) (slot:Slot T name id) (hty:typeOf (.builtin id)=pure (.type "method_descriptor")) (hm:MtR X id r) (ho:PE X o to)
  (hbase:attributeBase o name X.env (eval o X.env)=eval o X.env:=by rfl) (hline:(apos.endLine == cpos.line)=true:=by rfl):PE X (.Call (.Attribute o name apos) [] [] cpos) (tBM0 X.K T r to):=by
 intro pins s σ H Q I h
 refine wpAny_Call_method0_late hbase hline (thn (ho pins s σ H _ I h) fun v s1 ⟨x,H1,I1,r1,ty,q1⟩=>?_)
 obtain ⟨h1,h2⟩:=tyV_is I1 r1 ty
 exact ⟨T,id,pa,slot,hty,h1,h2,Calls.callWith_builtin rfl (PySem.evalArgs_none (hm pins s1 σ H1 x [] v [] Q I1 r1 .nil q1))⟩
theorem pe_bm (pa:PlainAttrs T) (slot:Slot T name id) (hty:typeOf (.builtin id)=pure (.type "method_descriptor")) (hm:MtR X id r) (ho:PE X o to) (ha:PA X (e::es) t)
  (hbase:attributeBase o name X.env (eval o X.env)=eval o X.env:=by rfl)
  (hfew:((backTo cpos (starEach (e::es) X.env)).all (fun x=>!x.1)&&(backToKw cpos (keywordEach [] X.env)).all (fun x=>x.1.isSome)
   && decide ((e::es).length+([]:List Keyword).length+(if ([]:List Keyword).isEmpty then 0 else 1)<30))=true:=by rfl)
  (hline:(apos.endLine == cpos.line)=true:=by rfl) (hs:starEach (e::es) X.env=(false,eval e X.env)::starEach es X.env:=by rfl) (hplain:(backTo cpos (starEach es X.env)).any (·.1)=false:=by rfl) :
  PE X (.Call (.Attribute o name apos) (e::es) [] cpos) (tBM X.K T r to t):=by
 intro pins s σ H Q I h
 refine wpAny_Call_method_late hbase hfew hline rfl (thn (ho pins s σ H _ I h) fun v s1 ⟨x,H1,I1,r1,ty,q1⟩=>?_)
 obtain ⟨h1,h2⟩:=tyV_is I1 r1 ty
 refine ⟨T,id,pa,slot,hty,h1,h2,?_⟩
 have hA:=ha cpos pins s1 σ H1 _ I1 q1
 rw [hs] at hA ⊢
 refine Calls.callWith_builtin (by show (false||(backTo cpos (starEach es X.env)).any (·.1))=false; rw [hplain] <;> rfl) (Calls.evalArgs_plain ?_)
 exact thn hA fun us s2 ⟨vs,H2,I2,r2,q2⟩=>hm pins s2 σ H2 x vs v us Q I2 r1 r2 q2
end
def MtM (X:Cx) (id:String) (r:V→List V→Hp→VK→Prop):Prop :=
 ∀ (pins:List (Addr × Obj)) (s:Shared) (σ:St) (H:Hp) (x:V) (xs:List V) (v:Value) (us:List Value) (Q:VK),Inv X pins σ H s→RelV x v→Vals xs us→r x xs H Q →
  wpAny (model X.prog X.w) X.A (call (.builtin id) (v::us)) (EP X pins σ Q) X.xe s
theorem Vals.cinv {x:V}{xs:List V}:∀ {us:List Value},Vals (x::xs) us→∃ u r,us=u::r∧RelV x u∧Vals xs r
 | _,.cons r t=>⟨_,_,rfl,r,t⟩
theorem Vals.ninv:∀ {us:List Value},Vals [] us→us=[]
 | _,.nil=>rfl
theorem Vals.one {x:V}{us:List Value} (h:Vals [x] us):∃ u,us=[u]∧RelV x u:=by
 obtain ⟨u,r,rfl,a,t⟩:=h.cinv
 rw [t.ninv]
 exact ⟨u,rfl,a⟩
theorem Vals.two {x y:V}{us:List Value} (h:Vals [x,y] us):∃ u v,us=[u,v]∧RelV x u∧RelV y v:=by
 obtain ⟨u,r,rfl,a,t⟩:=h.cinv
 obtain ⟨v,rfl,b⟩:=t.one
 exact ⟨u,v,rfl,a,b⟩
theorem Vals.zero:∀ {us:List Value},Vals [] us→us=[]
 | _,.nil=>rfl
theorem Vals.rep {xs:List V}{us:List Value} (h:Vals xs us):∀ k:Nat,Vals (List.replicate k xs).flatten (List.replicate k us).flatten
 | 0=>.nil
 | k+1=>by
  rw [List.replicate_succ,List.replicate_succ,List.flatten_cons,List.flatten_cons]
  exact Vals.append h (Vals.rep h k)
theorem foldl_rep (its:List Value):∀ (k:Nat) (acc:List Value),
  List.foldl (fun x1 x2=>x1++x2) acc.toArray (List.replicate k its.toArray)=(acc++(List.replicate k its).flatten).toArray
 | 0,acc=>by simp
 | k+1,acc=>by
  have e:acc.toArray++its.toArray=(acc++its).toArray:=by simp
  have e2:(acc++its)++(List.replicate k its).flatten=acc++(List.replicate (k+1) its).flatten:=by
   rw [List.replicate_succ,List.flatten_cons,List.append_assoc]
  rw [← e2,← foldl_rep its k (acc++its),← e,List.replicate_succ,List.foldl_cons]
section
variable {X:Cx}{pins:List (Addr × Obj)}{σ:St}{H:Hp}{s:Shared}{l b:Addr}{xs ys zs:List V}
theorem Inv.lset {its its':List Value}{n:Nat}{f:Array Value→Array Value}{t':Nat} (I:Inv X pins σ H s) (hH:H l=some (.lst xs))
  (e:s.heap.get? l=some { cls:=.type "list",data:=.seq its.toArray n }) (hf:f its.toArray=its'.toArray) (hv:Vals ys its') (hz:ys.length≤sizeLine) :
  Inv X pins σ (upd H l (.lst ys)) { s with heap:=s.heap.update l (Obj.mapSeq f),toks:=t' }:=by
 have q:=PySem.IsL.update e f
 rw [hf] at q
 refine I.write (x:=l) (e:=l) (by rw [hH]; exact trivial) (.inl rfl) (fun b' u hb hu=>(Heap.get?_update_other s.heap (Obj.mapSeq f) (Ne.symm hb)).trans hu) ⟨_,q⟩ ?_
 exact ⟨hz,its',_,hv,q⟩
theorem Inv.lnew {its:List Value}{t':Nat} (I:Inv X pins σ H s) (hv:Vals ys its) (hz:ys.length≤sizeLine) :
  Inv X pins σ (upd H s.heap.objs.size (.lst ys)) { s with heap:=s.heap.push { cls:=.type "list",data:=.seq its.toArray },toks:=t' } :=
 I.laid (fun _ _ q=>Heap.get?_push_of_some _ q) (Nat.le_refl _) ⟨hz,its,0,hv,Heap.get?_push_size _ rfl⟩
theorem Inv.fresh (I:Inv X pins σ H s):H s.heap.objs.size=none:=I.hok.fresh (Nat.le_refl _)
theorem Inv.lstM (I:Inv X pins σ H s) (hH:H l=some (.lst xs)):xs.length≤sizeLine∧∃ (its:List Value) (n:Nat),Vals xs its∧xs.length=its.length∧s.heap.get? l=some { cls:=.type "list",data:=.seq its.toArray n }:=by
 obtain ⟨z,its,n,r,e⟩:=I.hok l _ hH
 exact ⟨z,its,n,r,r.length,e⟩
theorem notLongL {n:Nat} (h:n≤sizeLine):Builtin.List.listTooLong n=false:=by
 unfold Builtin.List.listTooLong
 exact decide_eq_false (by omega)
end
section
variable {X:Cx}
noncomputable def rAppend:V→List V→Hp→VK→Prop:=fun x vs H Q=>∃ l xs y,x=.ref l∧vs=[y]∧H l=some (.lst xs)∧xs.length<sizeLine∧Q .non (upd H l (.lst (xs++[y])))
theorem mt_append:MtM X "list.append" rAppend:=by
 intro pins s σ H x vs v us Q I rx rv h
 obtain ⟨l,xs,y,rfl,rfl,hH,hz,q⟩:=h
 cases rx
 obtain ⟨u,rfl,ru⟩:=rv.one
 obtain ⟨z,its,n,r,hl,e⟩:=I.lstM hH
 refine call_meets F.slot_list_append ⟨_,e,rfl⟩ F.entry_list_append (F.args_list_append_2 _ _) (PySem.list_append l its.toArray n u (by rw [List.size_toArray]; omega)) ⟨e,?_⟩
 refine ⟨.non,_,I.lset (its':=its++[u]) hH e (by simp) (r.append (.cons ru .nil)) ?_,rfl,q⟩
 rw [List.length_append,List.length_singleton]
 omega
noncomputable def rCat:R2:=fun x y H Q=>∃ l b xs zs,x=.ref l∧y=.ref b∧H l=some (.lst xs)∧H b=some (.lst zs)∧xs.length+zs.length≤sizeLine∧∀ p,H p=none→Q (.ref p) (upd H p (.lst (xs++zs)))
theorem op_cat:OpR X (binaryOp .Add) rCat:=by
 intro pins s σ H x y v u Q I rx ry h
 obtain ⟨l,b,xs,zs,rfl,rfl,hH,hB,hz,q⟩:=h
 cases rx
 cases ry
 obtain ⟨z,its,n,r,hl,e⟩:=I.lstM hH
 obtain ⟨z2,its2,n2,r2,hl2,e2⟩:=I.lstM hB
 refine PySem.P.add_list e e2 ?_ (by rw [List.size_toArray,List.size_toArray]; omega)
 have ea:its.toArray++its2.toArray=(its++its2).toArray:=by simp
 rw [ea]
 exact ⟨.ref _,_,I.lnew (t':=s.toks) (r.append r2) (by rw [List.length_append]; omega),rfl,q _ I.fresh⟩
noncomputable def rRep:R2:=fun x y H Q=>∃ l k xs,x=.ref l∧y=.int k∧H l=some (.lst xs)∧-(2 ^ 63)≤k∧k<2 ^ 63∧xs.length*k.toNat≤sizeLine ∧
 ∀ p,H p=none→Q (.ref p) (upd H p (.lst (List.replicate k.toNat xs).flatten))
theorem len_rep {α:Type} (xs:List α) (k:Nat):(List.replicate k xs).flatten.length=k*xs.length:=by
 induction k with
 | zero=>simp
 | succ k ih=>rw [List.replicate_succ,List.flatten_cons,List.length_append,ih,Nat.succ_mul,Nat.add_comm]
theorem op_rep:OpR X (binaryOp .Mult) rRep:=by
 intro pins s σ H x y v u Q I rx ry h
 obtain ⟨l,k,xs,rfl,rfl,hH,h1,h2,hz,q⟩:=h
 cases rx
 obtain ⟨t,rfl⟩:=ry
 obtain ⟨z,its,n,r,hl,e⟩:=I.lstM hH
 have hlen:its.toArray.size*k.toNat≤sizeLine:=by rw [List.size_toArray,← hl]; exact hz
 have hcap:¬ its.toArray.size*k.toNat>(2 ^ 63 - 1) / 8:=by
  have:(sizeLine:Nat)≤(2 ^ 63 - 1) / 8:=by decide
  omega
 have hfit:¬ (!Builtin.List.listFitsIndex k)=true:=by
  rw [fitsIndex_both h1 h2]
  exact Bool.false_ne_true
 have hlong:¬ Builtin.List.listTooLong (its.toArray.size*k.toNat)=true:=by
  rw [notLongL hlen]
  exact Bool.false_ne_true
 have hnew:List.foldl (fun x1 x2=>x1++x2) #[] (List.replicate (if its.toArray.isEmpty=true then 0 else k.toNat) its.toArray)=(List.replicate k.toNat its).flatten.toArray:=by
  have f0:∀ m:Nat,List.foldl (fun x1 x2=>x1++x2) #[] (List.replicate m its.toArray)=(List.replicate m its).flatten.toArray:=fun m=>by
   have:=foldl_rep its m []
   rw [List.nil_append] at this
   exact this
  rw [f0]
  cases its with
  | nil=>simp
  | cons a r'=>rw [if_neg (by simp)]
 refine wpAny_binaryOp_repeat_ref (T := "list") (U := "int") (by decide) ⟨_,e,rfl⟩ (fun s'=>typeIs_int s' k t) noFill_list_mul F.fills_int_mul F.slot_int_rmul repeat_list F.slot_int_index.lookup
  (call_meets F.slot_int_rmul (typeIs_int s k t) F.entry_int_rmul (F.args_int_rmul_2 _ _) (int___rmul___int_list k t l its.toArray n)
   ⟨e,rfl,⟨_,e,rfl⟩,call_meets F.slot_list_mul ⟨_,e,rfl⟩ F.entry_list_mul (F.args_list_mul_2 _ _) (AutoListH.list___mul___list_int_3 l its.toArray n k t hfit hcap hlong) ⟨e,?_⟩⟩)
 rw [hnew]
 exact ⟨.ref _,_,I.lnew (t':=s.toks) (r.rep k.toNat) (by rw [len_rep,Nat.mul_comm]; exact hz),rfl,q _ I.fresh⟩
end
end L2
namespace Att
open PySem PySem.W PySem.Calls PyProof.Rows
theorem ints_of_wellAll {P:Params}{h:Heap}:∀ (ns:List Int) (vs:List Value),WellAll P h vs (ns.map WData.int)→IntsAre vs ns:=by
 intro ns
 induction ns with
 | nil =>
  intro vs w
  rw [List.map_nil] at w
  cases w
  exact .nil
 | cons n ns ih =>
  intro vs w
  rw [List.map_cons] at w
  cases w with
  | cons a b =>
   cases a
   exact .cons _ _ (ih _ b)
theorem script_of {l:OpenLaw}{n:Nat} (hn:l.most=some n) {P:Params}{h:Heap}{args:List WData}{vals:List Value}
  (hpre:l.row.toRowW.claim.pre args=true) (hwl:WellAll P h vals args) :
  ∃ a vs ns,vals=[Value.ref a]∧args=[WData.list (ns.map WData.int)]∧h.get? a=some { cls:=.type "list",data:=.seq vs.toArray }∧IntsAre vs ns∧ns.length≤n:=by
 have hsh:WShape.hasAll [] args [.list .int]=true:=(pre_splitW hpre).1
 have hc:l.pre.holds [] { args:=args }=true:=(pre_splitW hpre).2
 obtain ⟨d,r,rfl,h1,h2⟩:=hasAllW_cons hsh
 obtain rfl:=hasAllW_nil h2
 obtain ⟨xs,rfl,h3⟩:=hasW_list h1
 obtain ⟨ns,rfl⟩:=items_int h3
 have hlen:ns.length≤n:=by
  unfold OpenLaw.pre at hc
  have h4:(WTm.not (.lt (.lit (.int (n:Int))) (.len (.arg 0)))).holds [] { args:=[.list (ns.map .int)] }=true:=by
   have h4:=(holds_andW hc).1
   rw [hn] at h4
   exact h4
  have h5:=condW_of h4 (w_not (w_lt w_lit (w_len_list (w_arg rfl))))
  rw [List.length_map] at h5
  refine Nat.le_of_not_lt fun q=>?_
  have q':(n:Int)<((ns.length:Nat):Int):=by omega
  first
   | (rw [decide_eq_true q'] at h5; exact absurd h5 (by decide))
   | (simp at h5; omega)
 cases hwl with
 | cons w1 w2 =>
  cases w2
  cases w1 with
  | list ho hall=>exact ⟨_,_,ns,rfl,rfl,ho,ints_of_wellAll ns _ hall,hlen⟩
theorem post_true (l:OpenLaw) (args:List WData):l.row.toRowW.claim.post args (.bool true) args=true :=
 postW_of (r:=l.row.toRowW) (X:=(true == true))
  (show WShape.has [] (.bool true) .bool=true by first | rfl | decide | simp [WShape.has,WShape.arms,WShape.armsAll])
  (show (WTm.eq .res (.lit (.bool true))).value [] { args:=args,res:=some (.bool true),after:=args }=some (.bool (true == true)) from w_eq_bool (w_res rfl) w_lit) rfl
theorem attach_call {l:OpenLaw}{n:Nat}{q:Program}{loose:List Str}{XP:(Str→Option Value)→Heap→Prop}{YP:World→Heap→Prop}{d:DefRec}
  (hn:l.most=some n) (hdf:d.params.defaults=[])
  (call:∀ (w:World) (s₀ s₁:Shared) (mg mb:Str→Option Value) (fa:Addr) (o:Obj) (pm cd doc:Value) (a:Addr) (vs:List Value) (ns:List Int),
   Ground q loose [] XP w s₀ mg mb s₁.heap→YP w s₁.heap →
   s₁.heap.get? fa=some o→o.data=.func (docDef d.name d.params d.body d.scope pm cd doc)→s₁.heap.CodeRec cd d.name→mg d.name=some (.ref fa) →
   s₁.heap.get? a=some { cls:=.type "list",data:=.seq vs.toArray }→IntsAre vs ns→ns.length≤n→s₁.gens=#[] →
   codeAny (model l.prog w) callerA (.call (.ref fa) ⟨[.ref a],[]⟩) (fun r s'=>r=.ok (.ret (.bool true))∧OldK s₁.heap s'.heap∧s'.os=s₁.os∧AllBare s'.gens) s₁) :
  WalkO q loose XP YP l.row.toRowW d [] (fun f vs=>PySem.call f vs):=by
 intro w s₀ s₁ mg mb G Y fa o pm cd doc dV kV ho hd hcd hD hmg hg args vals as hpre hlay hrd hwl hlo
 obtain rfl:dV=.none:=Dflts.none hD hdf
 obtain rfl:kV=.none:=Dflts.noKw hD
 obtain ⟨a,vs,ns,rfl,rfl,hobj,hints,hlen⟩:=script_of hn hpre hwl
 refine enter_call (codeAny_mono (call w s₀ s₁ mg mb fa o pm cd doc a vs ns G Y ho (fd_plain hd) hcd hmg hobj hints hlen hg) fun r s' hq=>?_)
 obtain ⟨rfl,h2,h3,h4⟩:=hq
 exact ⟨.inl ⟨.bool true,.bool true,[],rfl,fun _=>rfl,.bool true,post_true l _,fun _=>⟨List.Pairwise.nil,fun _ hm=>(nomatch hm)⟩⟩,h2,h3,h4⟩
end Att
namespace L2
open PySem PySem.Spec PyProof.Rows
theorem vals_ints:∀ {vs:List Value}{ns:List Int},IntsAre vs ns→Vals (ns.map V.int) vs
 | _,_,.nil=>.nil
 | _,_,.cons n t h=>.cons ⟨t,rfl⟩ (vals_ints h)
def Only (H:Hp):Prop:=∀ b,H b=none∨∃ o xs,H b=some (.frz o (.lst xs))
theorem law_call {P:Program}{w:World}{K:W.Frag}{mg mb:Str→Option Value}{CX:CXT}{k:Nat}{fa a:Addr}{fd:FuncData}{x:Str}{sp:Sp}{s₁:Shared}{vs:List Value}{ns:List Int}
  (KX:K.In s₁.heap) (hns:s₁.heap.Ns mainGlobals mg) (hb:s₁.heap.Ns builtinsNs mb) (hbb:∀ x:Str,x ≠ "__name__"→mb x=bootBuiltins x) (hlim:s₁.heap.NoLimit) (hg:s₁.gens=#[])
  (ha:s₁.heap.get? a=some { cls:=.type "list",data:=.seq vs.toArray }) (hi:IntsAre vs ns) (hl:ns.length≤sizeLine) (hr:Room k callerA)
  (F:∀ base:Heap,K.In base→base.Ns mainGlobals mg→FnOk P w K mg base CX k fa fd [x] sp) (hbind:∀ (s:Shared) (u:Value),BindsTo s fd ⟨[u],[]⟩ [(x,u)])
  (hsp:∀ H:Hp,Only H→SqL K H a (ns.map V.int)→sp [.ref a] H (fun v _=>v=.bl true) fun _ _ _=>False)
  (hCX:∀ H e s',CX [] H s₁ (fun _ _ _=>False) e s'→False) :
  codeAny (model P w) callerA (.call (.ref fa) ⟨[.ref a],[]⟩) (fun r s'=>r=.ok (.ret (.bool true))∧OldK s₁.heap s'.heap∧s'.os=s₁.os∧AllBare s'.gens) s₁:=by
 have rv:=vals_ints hi
 have lenV:=hi.length
 have core:∀ H:Hp,Only H→SqL K H a (ns.map V.int)→HOk P w H s₁.heap→(∀ b,H b≠none→b=a)→(H a≠none→K.lookup a=none) →
   codeAny (model P w) callerA (.call (.ref fa) ⟨[.ref a],[]⟩) (fun r s'=>r=.ok (.ret (.bool true))∧OldK s₁.heap s'.heap∧s'.os=s₁.os∧AllBare s'.gens) s₁:=by
  intro H hO hS hok hA hK
  have base_of:∀ {b:Addr}{o:Obj},s₁.heap.get? b=some o→H b=none→(hidT s₁.heap H).get? b=some o:=fun e n=>hidT_get e n
  have noA:∀ {b:Addr}{o:Obj}{es:Array DictEntry}{ep:Nat},s₁.heap.get? b=some o→o.data=.dict es ep→H b=none:=fun {b o es ep} e d=>by
   cases q:H b with
   | none=>rfl
   | some u =>
    have e':b=a:=hA b (by rw [q]; simp)
    subst e'
    rw [ha] at e; cases e
    have d':Data.seq vs.toArray _=Data.dict es ep:=d
    cases d'
  have nsK:∀ {b:Addr}{m:Str→Option Value},s₁.heap.Ns b m→(hidT s₁.heap H).Ns b m:=fun {b m} ⟨o,es,ep,e,d,r⟩=>⟨o,es,ep,base_of e (noA e d),d,r⟩
  have hKb:K.In (hidT s₁.heap H):=fun b o e=>base_of (KX b o e) (by
   cases q:H b with
   | none=>rfl
   | some u =>
    have e':b=a:=hA b (by rw [q]; simp)
    subst e'
    rw [hK (by rw [q]; simp)] at e; cases e)
  have hM:Mod K mg (hidT s₁.heap H):=⟨hKb,nsK hns,⟨mb,nsK hb,hbb⟩,let ⟨mc,h1,h2⟩:=hlim; ⟨mc,nsK h1,h2⟩⟩
  have e0:Env0 P w K mg (hidT s₁.heap H) callerA [] s₁ H:=⟨rfl,hM,fun b o e=>of_hidT e,Nat.le_of_eq (hidT_size _ _),trivial,fun b hb=>absurd (show b∈([]:List Addr) from hb) (by simp),hok,.of_eq hg⟩
  refine codeAny_mono ((F _ hKb (nsK hns)).run callerA [] s₁ H ⟨[.ref a],[]⟩ [.ref a] [.ref a] _ _ hr e0 (hbind s₁ (.ref a)) (.cons rfl .nil) (hsp H hO hS)) fun r s' h=>?_
  cases r with
  | error e=>exact (hCX H e s' h).elim
  | ok fl =>
   cases fl with
   | next=>exact False.elim h
   | brk=>exact False.elim h
   | cont=>exact False.elim h
   | ret u =>
    obtain ⟨v,H',os,bare,un,hok',r',q⟩:=h
    have q':v=.bl true:=q
    subst q'
    obtain rfl:u=Value.bool true:=r'
    refine ⟨rfl,OldK.of_keep fun b o e=>?_,os,bare⟩
    cases q:H b with
    | none=>exact un.keep b o e q (by intro z; exact absurd (show b∈([]:List Addr) from z) (by simp)) (by simp)
    | some u =>
     rcases hO b with z | ⟨ob,xs,z⟩
     ·rw [q] at z; cases z
     ·have z2:=un.frzs b ob _ z
      obtain ⟨e1,_⟩:=hok b _ z
      obtain ⟨e2,_⟩:=hok' b _ z2
      rw [e] at e1; cases e1
      exact e2
 cases hk:K.lookup a with
 | some o =>
  have e:=KX a o hk
  rw [ha] at e
  cases e
  refine core (fun _=>none) (fun _=>.inl rfl) (.inr ⟨_,vs.toArray,_,hk,rfl,rfl,rfl,by rw [List.size_toArray,lenV]; exact hl,by simpa using rv⟩) (fun b u z=>by have z':(none:Option HO)=some u:=z; cases z') (fun b z=>absurd rfl z) fun z=>absurd rfl z
 | none =>
  refine core (fun b=>if b=a then some (.frz { cls:=.type "list",data:=.seq vs.toArray } (.lst (ns.map V.int))) else none) (fun b=>?_) (.inl (.inr ⟨{ cls:=.type "list",data:=.seq vs.toArray },if_pos rfl⟩)) (fun b u z=>?_) (fun b z=>?_) fun _=>hk
  ·by_cases hb:b=a
   ·exact .inr ⟨_,_,if_pos hb⟩
   ·exact .inl (if_neg hb)
  ·by_cases hb:b=a
   ·have z':=(if_pos hb).symm.trans z
    cases z'
    subst hb
    exact ⟨ha,by rw [List.length_map]; exact hl,vs,_,rv,ha⟩
   ·have z':=(if_neg hb).symm.trans z
    cases z'
  ·by_cases hb:b=a
   ·exact hb
   ·exact absurd (if_neg hb) z
theorem walk_of {l:W.OpenLaw}{n k:Nat}{q:Program}{loose:List Str}{XP:(Str→Option Value)→Heap→Prop}{YP:World→Heap→Prop}{d:DefRec}{K:Params→W.Frag}{CX:World→CXT}{sp:World→Sp}{x:Str}
  (hn:l.most=some n) (hn2:n≤sizeLine) (hdf:d.params.defaults=[]) (hr:Room k callerA)
  (hY:∀ (w:World) (h:Heap),YP w h→(K w.params).In h)
  (F:∀ (w:World) (mg:Str→Option Value) (fa:Addr) (h:Heap),(K w.params).In h→h.Ns mainGlobals mg→mg d.name=some (.ref fa) →
   ∃ fd:FuncData,(∀ (s:Shared) (u:Value),BindsTo s fd ⟨[u],[]⟩ [(x,u)]) ∧
    ∀ base:Heap,(K w.params).In base→base.Ns mainGlobals mg→FnOk l.prog w (K w.params) mg base (CX w) k fa fd [x] (sp w))
  (hsp:∀ (w:World) (H:Hp) (a:Addr) (ns:List Int),ns.length≤n→Only H→SqL (K w.params) H a (ns.map V.int)→sp w [.ref a] H (fun v _=>v=.bl true) fun _ _ _=>False)
  (hCX:∀ (w:World) (H:Hp) (s:Shared) (e:Value) (s':Shared),CX w [] H s (fun _ _ _=>False) e s'→False) :
  W.WalkO q loose XP YP l.row.toRowW d [] (fun f vs=>PySem.call f vs):=by
 refine Att.attach_call hn hdf fun w s₀ s₁ mg mb fa o pm cd doc a vs ns G Y ho hd hcd hmg hobj hints hlen hg=>?_
 have KX:=hY w _ Y
 obtain ⟨fd,hb,hF⟩:=F w mg fa _ KX G.T.g hmg
 exact law_call KX G.T.g G.T.b G.T.builtins G.T.nolimit hg hobj hints (Nat.le_trans hlen hn2) hr hF hb (fun H hO hS=>hsp w H a ns hlen hO hS) fun H e s'=>hCX w H s₁ e s'
noncomputable def defArgs (s:Stmt):Arguments:=match s with
 | .FunctionDef _ a _ _ _ _ _ _ _ _=>a
 | _=>{ posonlyargs:=[],args:=[],vararg:=none,kwonlyargs:=[],kw_defaults:=[],kwarg:=none,defaults:=[] }
noncomputable def defBody (s:Stmt):List Stmt:=match s with
 | .FunctionDef _ _ b _ _ _ _ _ _ _=>b
 | _=>[]
noncomputable def defScope (s:Stmt):Scope:=match s with
 | .FunctionDef _ _ _ _ _ _ sc _ _ _=>sc
 | _=>{ kind:=.function,names:=[],isGenerator:=false,isCoroutine:=false }
noncomputable abbrev CX0:CXT:=fun _ _ _ _ _ _=>False
noncomputable abbrev E0:XK:=fun _ _ _=>False
theorem pass0 {X:Cx}:Passes CX0 X E0:=fun _ _ _ _ _ _ _ h=>h.elim
structure Fun (K:W.Frag) (x qual:Str) (st:Stmt) (f:Addr) (fd:FuncData):Prop where
 ex:∃ (oc:Value) (od:Option Addr) (kV doc pm:Value) (an:Option Addr) (cdv ct:Value) (osl:Array (Option Value)),
  fd=W.fnOf x qual (defArgs st) (defBody st) (defScope st) .none kV doc pm an cdv ct∧K.lookup f=some ⟨oc,od,.func fd,osl⟩∧W.codeIn K cdv qual=true
 kp:W.keepIn K (.ref f)=true
section
variable {P:Program}{w:World}{K:W.Frag}{mg:Str→Option Value}{base:Heap}
theorem Fun.ok {x qual:Str}{st:Stmt}{f:Addr}{fd:FuncData}{N ps:List Str}{k:Nat}{sp:Sp} (F:Fun K x qual st f fd) (S:FnScope N ps (defScope st)) (len:∀ vs H Q E,sp vs H Q E→vs.length=ps.length)
  (hbody:∀ (cdv:Value) (A:Around) (outer:List Env) (s:Shared) (H:Hp) (vs:List V) (Q:VK) (E:XK),Room k (A.deeper (envOfC qual (defScope st) s.heap.objs.size f cdv))→sp vs H Q E →
   ∃ t,PSs (cxOf CX0 P w K mg base N qual (defScope st) f cdv A outer s H E).nox (defBody st) t∧t { nx:=fun _ H'=>Q .non H',rt:=Q } (start N vs) H):FnOk P w K mg base CX0 (k+1) f fd ps sp:=by
 obtain ⟨oc,od,kV,doc,pm,an,cdv,ct,osl,rfl,lk,hcd⟩:=F.ex
 refine fn_of lk hcd S len fun A outer s H vs Q E hr hsp=>?_
 obtain ⟨t,h,q⟩:=hbody cdv A outer s H vs Q E hr hsp
 exact ⟨t,h.nox,q⟩
theorem Fun.binds {x qual:Str}{st:Stmt}{f:Addr}{fd:FuncData}{ps:List Str} (F:Fun K x qual st f fd)
  (h:∀ (kV doc pm:Value) (an:Option Addr) (cdv ct:Value) (us:List Value),us.length=ps.length→bindArgs (W.fnOf x qual (defArgs st) (defBody st) (defScope st) .none kV doc pm an cdv ct) ⟨us,[]⟩=pure (ps.zip us)):Binds K fd ps []:=by
 obtain ⟨oc,od,kV,doc,pm,an,cdv,ct,osl,rfl,lk,hcd⟩:=F.ex
 exact .all (h kV doc pm an cdv ct)
theorem fun_mk {x qual:Str}{st:Stmt}{f:Addr}{oc:Value}{od an:Option Addr}{osl:Array (Option Value)}{kV doc pm cdv ct:Value} (l:K.lookup f=some ⟨oc,od,.func (W.fnOf x qual (defArgs st) (defBody st) (defScope st) .none kV doc pm an cdv ct),osl⟩)
  (c:W.codeIn K cdv qual=true) (k:W.keepIn K (.ref f)=true):Fun K x qual st f (W.fnOf x qual (defArgs st) (defBody st) (defScope st) .none kV doc pm an cdv ct):=⟨⟨oc,od,kV,doc,pm,an,cdv,ct,osl,rfl,l,c⟩,k⟩
end
theorem hu_of {A:Around}{k:Nat} (hr:Room k A):A.units+1<cLine:=Nat.lt_of_le_of_lt (Nat.add_le_add_left (by decide:1≤64) _) hr.units
theorem small1000 {n:Nat} (h:n≤1000):n<sizeLine:=Nat.lt_of_le_of_lt h (by decide)
def Same (H H':Hp):Prop:=∀ b o,H b=some o→H' b=some o
theorem Same.refl (H:Hp):Same H H:=fun _ _ h=>h
section
variable {κ:Type} [DecidableEq κ]
noncomputable def valV (kvs:List (κ × V)) (k:κ):Option V:=(kvs.find? fun kv=>decide (kv.1=k)).map (·.2)
noncomputable def putK (kvs:List (κ × V)) (k:κ) (v:V):List (κ × V) :=
 if (kvs.any fun kv=>decide (kv.1=k))=true then kvs.map (fun kv=>if kv.1=k then (kv.1,v) else kv) else kvs++[(k,v)]
theorem valV_pos {p:κ × V}{r:List (κ × V)}{k:κ} (e:p.1=k):valV (p::r) k=some p.2:=by simp [valV,List.find?_cons,e]
theorem valV_neg {p:κ × V}{r:List (κ × V)}{k:κ} (e:¬ p.1=k):valV (p::r) k=valV r k:=by simp [valV,List.find?_cons,e]
theorem valV_any (k:κ):∀ kvs:List (κ × V),(kvs.any fun kv=>decide (kv.1=k))=(valV kvs k).isSome
 | []=>rfl
 | p::r=>by
  rw [List.any_cons]
  by_cases e:p.1=k
  ·simp only [valV_pos e,decide_eq_true e,Bool.true_or,Option.isSome_some]
  ·rw [valV_neg e,decide_eq_false e,Bool.false_or]; exact valV_any k r
theorem length_putK (kvs:List (κ × V)) (k:κ) (v:V):(putK kvs k v).length≤kvs.length+1:=by
 unfold putK
 split
 ·rw [List.length_map]; omega
 ·rw [List.length_append,List.length_cons,List.length_nil]; omega
theorem RelO.isSome_eq {o:Option V}{u:Option Value} (r:RelO o u):o.isSome=u.isSome:=by
 cases o with
 | none=>cases u with
  | none=>rfl
  | some _=>exact (show False from r).elim
 | some _=>cases u with
  | none=>exact (show False from r).elim
  | some _=>rfl
theorem KV.val {kvs:List (κ × V)}{vs:List (κ × Value)} (r:KV kvs vs) (k:κ):RelO (valV kvs k) (valueAt vs k):=by
 unfold KV at r
 induction r with
 | nil=>exact True.intro
 | @cons p q ps qs h t ih =>
  obtain ⟨h1,h2⟩:=h
  by_cases e:p.1=k
  ·have e':q.1=k:=h1.symm.trans e
   have b:valueAt (q::qs) k=some q.2:=by simp [valueAt,List.find?_cons,e']
   rw [valV_pos e,b]; exact h2
  ·have e':¬ q.1=k:=fun z=>e (h1.trans z)
   have b:valueAt (q::qs) k=valueAt qs k:=by simp [valueAt,List.find?_cons,e']
   rw [valV_neg e,b]; exact ih
theorem KV.any {kvs:List (κ × V)}{vs:List (κ × Value)} (r:KV kvs vs) (k:κ):(kvs.any fun kv=>decide (kv.1=k))=vs.any fun kv=>decide (kv.1=k):=by
 unfold KV at r
 induction r with
 | nil=>rfl
 | cons h t ih=>rw [List.any_cons,List.any_cons,ih,h.1]
theorem KV.repl {kvs:List (κ × V)}{vs:List (κ × Value)} (r:KV kvs vs) (k:κ) {y:V}{u:Value} (ry:RelV y u) :
  KV (kvs.map fun kv=>if kv.1=k then (kv.1,y) else kv) (vs.map fun kv=>if kv.1=k then (kv.1,u) else kv):=by
 unfold KV at r ⊢
 induction r with
 | nil=>exact .nil
 | @cons p q ps qs h t ih =>
  rw [List.map_cons,List.map_cons]
  refine .cons ?_ ih
  obtain ⟨h1,h2⟩:=h
  by_cases e:p.1=k
  ·rw [if_pos e,if_pos (h1.symm.trans e)]; exact ⟨h1,ry⟩
  ·rw [if_neg e,if_neg (fun z=>e (h1.trans z))]; exact ⟨h1,h2⟩
theorem KV.put {kvs:List (κ × V)}{vs:List (κ × Value)} (r:KV kvs vs) (k:κ) {y:V}{u:Value} (ry:RelV y u):KV (putK kvs k y) (stored vs k u):=by
 unfold putK stored
 rw [r.any k]
 by_cases e:(vs.any fun kv=>decide (kv.1=k))=true
 ·rw [if_pos e,if_pos e]; exact r.repl k ry
 ·rw [if_neg e,if_neg e]; exact Paired.snoc r ⟨rfl,ry⟩
theorem KV.length {kvs:List (κ × V)}{vs:List (κ × Value)} (r:KV kvs vs):kvs.length=vs.length:=Paired.length r
end
theorem kV_is {P:Program}{w:World}{k:Key}{u:Value} (r:RelV (kV k) u):(mixKind P w).is k u=true:=by
 cases k with
 | inl i=>obtain ⟨t,e⟩:=(show ∃ t,u=Value.int i t from r); subst e; exact mixKind_int P w i t
 | inr x=>obtain ⟨t,e⟩:=(show ∃ t,u=Value.str x t from r); subst e; exact mixKind_str P w x t
theorem items_are {P:Program}{w:World}:∀ {ks:List Key}{us:List Value},Vals (ks.map kV) us→ItemsAre (mixKind P w) ks us
 | [],_,r=>by rw [List.map_nil] at r; cases r; exact .nil
 | k::ks,_,r=>by
  rw [List.map_cons] at r
  cases r with
  | cons h t=>exact .cons (kV_is h) (items_are t)
noncomputable abbrev KT (H:Hp):List (List Key × V)→List (List Key × Addr × Value)→Prop:=Paired fun p q=>p.1=q.1∧H q.2.1=some (.tup (p.1.map kV))∧RelV p.2 q.2.2
theorem KT.val {H:Hp}{kvs:List (List Key × V)}{xs:List (List Key × Addr × Value)} (r:KT H kvs xs) (k:List Key):RelO (valV kvs k) ((atKey xs k).map (·.2)):=by
 induction r with
 | nil=>exact True.intro
 | @cons p q ps qs h t ih =>
  obtain ⟨h1,_,h2⟩:=h
  by_cases e:p.1=k
  ·have e':q.1=k:=h1.symm.trans e
   have b:atKey (q::qs) k=some q.2:=by simp [atKey,List.find?_cons,e']
   rw [valV_pos e,b]; exact h2
  ·have e':¬ q.1=k:=fun z=>e (h1.trans z)
   have b:atKey (q::qs) k=atKey qs k:=by simp [atKey,List.find?_cons,e']
   rw [valV_neg e,b]; exact ih
theorem KT.repl {H:Hp}{kvs:List (List Key × V)}{xs:List (List Key × Addr × Value)} (r:KT H kvs xs) (k:List Key) {y:V}{u:Value} (ry:RelV y u) :
  KT H (kvs.map fun kv=>if kv.1=k then (kv.1,y) else kv) (xs.map (putAt k u)):=by
 induction r with
 | nil=>exact .nil
 | @cons p q ps qs h t ih =>
  rw [List.map_cons,List.map_cons]
  refine .cons ?_ ih
  obtain ⟨h1,h2,h3⟩:=h
  unfold putAt
  by_cases e:p.1=k
  ·rw [if_pos e,if_pos (h1.symm.trans e)]; exact ⟨h1,h2,ry⟩
  ·rw [if_neg e,if_neg (fun z=>e (h1.trans z))]; exact ⟨h1,h2,h3⟩
theorem KT.put {H:Hp}{kvs:List (List Key × V)}{xs:List (List Key × Addr × Value)} (r:KT H kvs xs) (k:List Key) {b:Addr}{y:V}{u:Value} (hb:H b=some (.tup (k.map kV))) (ry:RelV y u) :
  KT H (putK kvs k y) (storedH xs k b u):=by
 have e:(kvs.any fun kv=>decide (kv.1=k))=(atKey xs k).isSome:=by
  rw [valV_any,(r.val k).isSome_eq,Option.isSome_map]
 unfold putK storedH
 rw [e]
 by_cases q:(atKey xs k).isSome=true
 ·rw [if_pos q,if_pos q]; exact r.repl k ry
 ·rw [if_neg q,if_neg q]; exact Paired.snoc r ⟨rfl,hb,ry⟩
theorem KT.keeps {H H':Hp}{kvs:List (List Key × V)}{xs:List (List Key × Addr × Value)} (r:KT H kvs xs) (ht:∀ b ys,H b=some (.tup ys)→H' b=some (.tup ys)):KT H' kvs xs :=
 Paired.mapP r fun _ _ z=>⟨z.1,ht _ _ z.2.1,z.2.2⟩
section
variable {P:Program}{w:World}{H:Hp}{h:Heap}{a:Addr}
theorem rd_of {u:HO} (ok:HOk P w H h) (e:Rd H a u):ObjOk P w H h a u:=e.ok ok
theorem dk_rd {kvs:List (Key × V)} (ok:HOk P w H h) (e:Rd H a (.dK kvs)):kvs.length≤sizeLine∧(a == sysModules)=false∧∃ vs,KV kvs vs∧h.DictOf (mixKind P w) a vs :=
 show ObjOk P w H h a (.dK kvs) from rd_of ok e
theorem dk_of {kvs:List (Key × V)} (ok:HOk P w H h) (e:H a=some (.dK kvs)):kvs.length≤sizeLine∧(a == sysModules)=false∧∃ vs,KV kvs vs∧h.DictOf (mixKind P w) a vs:=dk_rd ok (.inl e)
theorem key_of {ks:List Key} (ok:HOk P w H h) (e:H a=some (.tup (ks.map kV))):(tupleKind (mixKind P w)).is h ks a:=by
 obtain ⟨_,its,r,o,h1,h2,n,h3⟩:=(show ObjOk P w H h a (.tup (ks.map kV)) from ok a _ e)
 exact ⟨o,its.toArray,n,h1,h2,h3,by simpa using items_are r⟩
theorem dt_rd {kvs:List (List Key × V)} (ok:HOk P w H h) (e:Rd H a (.dT kvs)):kvs.length≤sizeLine∧(a == sysModules)=false ∧
  ∃ xs,KT H kvs xs∧h.DictOfH (tupleKind (mixKind P w)) a xs:=by
 obtain ⟨z,y,xs,r,o,es,ep,h1,h2,h3,h4,h5⟩:=(show ObjOk P w H h a (.dT kvs) from rd_of ok e)
 refine ⟨z,y,xs,r,o,es,ep,h1,h2,h3,h4,fun x hx=>?_,h5⟩
 have all:∀ {l:List (List Key × V)}{m:List (List Key × Addr × Value)},KT H l m→∀ x∈m,(tupleKind (mixKind P w)).is h x.1 x.2.1:=by
  intro l m q
  induction q with
  | nil=>intro x hx; exact nomatch hx
  | @cons p q ps qs hq t ih =>
   intro x hx
   rcases List.mem_cons.mp hx with e | hx
   ·subst e
    exact key_of ok (by rw [← hq.1]; exact hq.2.1)
   ·exact ih x hx
 exact all r x hx
theorem dt_of {kvs:List (List Key × V)} (ok:HOk P w H h) (e:H a=some (.dT kvs)):kvs.length≤sizeLine∧(a == sysModules)=false ∧
  ∃ xs,KT H kvs xs∧h.DictOfH (tupleKind (mixKind P w)) a xs:=dt_rd ok (.inl e)
end
def DGet (H:Hp) (a:Addr) (y:V) (r:Option V):Prop :=
 (∃ kvs k,Rd H a (.dK kvs)∧y=kV k∧r=valV kvs k)∨∃ kvs k b,Rd H a (.dT kvs)∧y=.ref b∧H b=some (.tup (k.map kV))∧r=valV kvs k
def DPut (H:Hp) (a:Addr) (y v:V) (H':Hp):Prop :=
 (∃ kvs k,H a=some (.dK kvs)∧y=kV k∧kvs.length<sizeLine∧H'=upd H a (.dK (putK kvs k v))) ∨
 ∃ kvs k b,H a=some (.dT kvs)∧y=.ref b∧H b=some (.tup (k.map kV))∧kvs.length<sizeLine∧H'=upd H a (.dT (putK kvs k v))
theorem DGet.k {H:Hp}{a:Addr}{kvs:List (Key × V)}{k:Key} (e:H a=some (.dK kvs)):DGet H a (kV k) (valV kvs k):=.inl ⟨kvs,k,.inl e,rfl,rfl⟩
theorem DGet.t {H:Hp}{a b:Addr}{kvs:List (List Key × V)}{k:List Key} (e:H a=some (.dT kvs)) (eb:H b=some (.tup (k.map kV))):DGet H a (.ref b) (valV kvs k):=.inr ⟨kvs,k,b,.inl e,rfl,eb,rfl⟩
theorem DPut.k {H:Hp}{a:Addr}{kvs:List (Key × V)}{k:Key}{v:V} (e:H a=some (.dK kvs)) (hl:kvs.length<sizeLine):DPut H a (kV k) v (upd H a (.dK (putK kvs k v))):=.inl ⟨kvs,k,e,rfl,hl,rfl⟩
section
variable {X:Cx}{pins:List (Addr × Obj)}{σ:St}{H:Hp}{s:Shared}{a:Addr}{y v:V}{u r:Value}{o:Option V}{A:Around}{E:Value→Shared→Prop}
theorem Inv.big (I:Inv X pins σ H s):sysModules<s.heap.objs.size:=by
 have h:mainGlobals<s.heap.objs.size:=(I.mod.glob.keeps I.bk).lt
 exact Nat.lt_trans (by decide) h
theorem d_getItem {Q:Value→Shared→Prop} (hu:A.units+1<cLine) (I:Inv X pins σ H s) (g:DGet H a y (some v)) (ry:RelV y u) (h:∀ w' s',Inv X pins σ H s'→RelV v w'→Q w' s') :
  wpAny (model X.prog X.w) A (getItem (.ref a) u) Q E s:=by
 rcases g with ⟨kvs,k,e,ey,l⟩ | ⟨kvs,k,b,e,ey,eb,l⟩
 ·subst ey
  obtain ⟨z,hd,vs,rel,dd⟩:=dk_rd I.hok e
  obtain ⟨w',hw,rw'⟩:=RelO.some_of (v:=v) (o:=valueAt vs k) (by rw [l]; exact rel.val k)
  exact wpAny_getItem_of (kV_is ry) dd.mapOf hw (h w' _ (I.tok _) rw')
 ·subst ey
  cases (show u=Value.ref b from ry)
  obtain ⟨z,hd,xs,rel,dd⟩:=dt_rd I.hok e
  obtain ⟨w',hw,rw'⟩:=RelO.some_of (v:=v) (o:=(atKey xs k).map (·.2)) (by rw [l]; exact rel.val k)
  obtain ⟨p,hp,hp2⟩:=Option.map_eq_some_iff.mp hw
  refine wpAny_getItem_heap (tupleKind_room_in1 hu) (key_of I.hok eb) dd hp ?_
  rw [hp2]
  exact h w' _ (I.tok _) rw'
theorem d_in {Q:Value→Shared→Prop} (hu:A.units+1<cLine) (I:Inv X pins σ H s) (g:DGet H a y o) (ry:RelV y u) (h:∀ s',Inv X pins σ H s'→Q (.bool o.isSome) s') :
  wpAny (model X.prog X.w) A (compareOp .In u (.ref a)) Q E s:=by
 rcases g with ⟨kvs,k,e,ey,l⟩ | ⟨kvs,k,b,e,ey,eb,l⟩
 ·subst ey
  obtain ⟨z,hd,vs,rel,dd⟩:=dk_rd I.hok e
  refine wpAny_in_of (kV_is ry) hd dd.mapOf ?_
  rw [← (rel.val k).isSome_eq,← l]
  exact h _ (I.tok _)
 ·subst ey
  cases (show u=Value.ref b from ry)
  obtain ⟨z,hd,xs,rel,dd⟩:=dt_rd I.hok e
  refine wpAny_in_heap (tupleKind_room_in1 hu) (key_of I.hok eb) hd dd ?_
  have q:=(rel.val k).isSome_eq
  rw [Option.isSome_map] at q
  rw [← q,← l]
  exact h _ (I.tok _)
theorem d_notIn {Q:Value→Shared→Prop} (hu:A.units+1<cLine) (I:Inv X pins σ H s) (g:DGet H a y o) (ry:RelV y u) (h:∀ s',Inv X pins σ H s'→Q (.bool (!o.isSome)) s') :
  wpAny (model X.prog X.w) A (compareOp .NotIn u (.ref a)) Q E s:=by
 rcases g with ⟨kvs,k,e,ey,l⟩ | ⟨kvs,k,b,e,ey,eb,l⟩
 ·subst ey
  obtain ⟨z,hd,vs,rel,dd⟩:=dk_rd I.hok e
  refine wpAny_notIn_of (kV_is ry) hd dd.mapOf ?_
  rw [← (rel.val k).isSome_eq,← l]
  exact h _ (I.tok _)
 ·subst ey
  cases (show u=Value.ref b from ry)
  obtain ⟨z,hd,xs,rel,dd⟩:=dt_rd I.hok e
  refine wpAny_notIn_heap (tupleKind_room_in1 hu) (key_of I.hok eb) hd dd ?_
  have q:=(rel.val k).isSome_eq
  rw [Option.isSome_map] at q
  rw [← q,← l]
  exact h _ (I.tok _)
theorem d_write {h':Heap}{t':Nat}{ob:HO} (I:Inv X pins σ H s) (mu:Mut (H a)) (hs:Heap.SameBut a s.heap h') (he:∃ q,h'.get? a=some q) (new:ObjOk X.prog X.w (upd H a ob) h' a ob) :
  Inv X pins σ (upd H a ob) { s with heap:=h',toks:=t' } :=
 I.write (x:=a) (e:=a) mu (.inl rfl) (fun b q hb z=>(hs.2 b hb).trans z) he new
theorem dk_new {P:Program}{w:World}{H':Hp}{h':Heap}{kvs:List (Key × V)}{vs:List (Key × Value)} (z:kvs.length≤sizeLine) (hd:(a == sysModules)=false) (rel:KV kvs vs) (dd:h'.DictOf (mixKind P w) a vs) :
  ObjOk P w H' h' a (.dK kvs):=⟨z,hd,vs,rel,dd⟩
theorem d_setItem {H':Hp}{Q:Unit→Shared→Prop} (hu:A.units+1<cLine) (I:Inv X pins σ H s) (g:DPut H a y v H') (ry:RelV y u) (rv:RelV v r) (h:∀ s',Inv X pins σ H' s'→Q () s') :
  wpAny (model X.prog X.w) A (setItem (.ref a) u r) Q E s:=by
 rcases g with ⟨kvs,k,e,ey,l,eH⟩ | ⟨kvs,k,b,e,ey,eb,l,eH⟩
 ·subst ey eH
  obtain ⟨z,hd,vs,rel,dd⟩:=dk_of I.hok e
  have hz:vs.length≤sizeLine:=by rw [← rel.length]; exact z
  have hl:(putK kvs k v).length≤sizeLine:=by have:=length_putK kvs k v; omega
  refine wpAny_setItem_pairs (hsz:=hz) (kV_is ry) dd fun h' dd' hs=>h _ ?_
  have he:∃ q,h'.get? a=some q:=let ⟨q,_,_,hq,_⟩:=dd'; ⟨q,hq⟩
  exact d_write I (by rw [e]; exact True.intro) hs he (dk_new hl hd (rel.put k rv) dd')
 ·subst ey eH
  cases (show u=Value.ref b from ry)
  obtain ⟨z,hd,xs,rel,dd⟩:=dt_of I.hok e
  have hz:xs.length≤sizeLine:=by rw [← Paired.length rel]; exact z
  have hl:(putK kvs k v).length≤sizeLine:=by have:=length_putK kvs k v; omega
  refine wpAny_setItem_heap (hsz:=hz) (tupleKind_room_in1 hu) (key_of I.hok eb) dd fun h' dd' hs=>h _ ?_
  obtain ⟨q,es,ep,hq,h2,h3,h4,_,h5⟩:=dd'
  refine d_write I (by rw [e]; exact True.intro) hs ⟨q,hq⟩ ⟨hl,hd,_,(rel.put k eb rv).keeps fun c ys ec=>?_,q,es,ep,hq,h2,h3,h4,h5⟩
  rw [upd_ne (ne_of ec e (fun z=>nomatch z))]
  exact ec
end
theorem dict_typeIs {X:Cx}{pins:List (Addr × Obj)}{σ:St}{H:Hp}{s:Shared}{a:Addr}{y:V}{o:Option V} (I:Inv X pins σ H s) (g:DGet H a y o):s.TypeIs (.ref a) "dict":=by
 rcases g with ⟨kvs,k,e,_,_⟩ | ⟨kvs,k,b,e,_,_,_⟩
 ·obtain ⟨_,_,vs,_,dd⟩:=dk_rd I.hok e
  exact dd.typeIs
 ·obtain ⟨_,_,xs,_,dd⟩:=dt_rd I.hok e
  exact dd.typeIs
theorem dk_empty {P:Program}{w:World}{H:Hp} (h:Heap) (hb:sysModules<h.objs.size):ObjOk P w H (h.push { cls:=.type "dict",data:=.dict #[] }) h.objs.size (.dK []) :=
 ⟨Nat.zero_le _,beq_eq_false_iff_ne.mpr (Ne.symm (Nat.ne_of_lt hb)),[],.nil,Heap.DictOf.new h⟩
noncomputable def tDNewK:TE:=fun _ H Q=>∀ p,H p=none→Q (.ref p) (upd H p (.dK []))
section
variable {X:Cx}{pos:Pos}
theorem pe_dnewK:PE X (.Dict [] [] pos) tDNewK:=fun pins s σ H Q I h =>
 wpAny_Dict_empty ⟨.ref s.heap.objs.size,_,I.laid (a:=s.heap.objs.size) (o:=.dK []) (t':=s.toks) (fun _ _ q=>Heap.get?_push_of_some _ q) (Nat.le_refl _) (dk_empty s.heap I.big),rfl,h _ (I.hok.fresh (Nat.le_refl _))⟩
end
noncomputable def tPairs:List (TE × TE)→St→Hp→(List (V × V)→Hp→Prop)→Prop
 | [],_,H,Q=>Q [] H
 | (tk,tv)::r,σ,H,Q=>tk σ H fun x H1=>tv σ H1 fun y H2=>tPairs r σ H2 fun ps H3=>Q ((x,y)::ps) H3
noncomputable abbrev VV:List (V × V)→List (Value × Value)→Prop:=Paired fun p q=>RelV p.1 q.1∧RelV p.2 q.2
def PPs (X:Cx) (pos:Pos) (keys:List (Option Expr)) (values:List Expr) (trs:List (TE × TE)):Prop :=
 ∀ (pins:List (Addr × Obj)) (s:Shared) (σ:St) (H:Hp) (Q:List (V × V)→Hp→Prop),Inv X pins σ H s→tPairs trs σ H Q →
  wpAny (model X.prog X.w) X.A (evalPairs (pairTrees keys values X.env pos)) (fun vs s'=>∃ ps H',Inv X pins σ H' s'∧VV ps vs∧Q ps H') X.xe s
theorem pps_nil {X:Cx}{pos:Pos}:PPs X pos [] [] []:=fun pins s σ H Q I h=>pairTrees_nil_walk ⟨[],H,I,.nil,h⟩
theorem pps_cons {X:Cx}{pos:Pos}{k v:Expr}{ks:List (Option Expr)}{vs:List Expr}{tk tv:TE}{trs:List (TE × TE)} (hk:PE X k tk) (hv:PE X v tv) (hr:PPs X pos ks vs trs) :
  PPs X pos (some k::ks) (v::vs) ((tk,tv)::trs):=fun pins s σ H Q I h =>
 pairTrees_cons_walk (thn (hk pins s σ H _ I h) fun u s1 ⟨x,H1,I1,rx,q1⟩=>thn (hv pins s1 σ H1 _ I1 q1) fun w2 s2 ⟨y,H2,I2,ry,q2⟩ =>
  thn (hr pins s2 σ H2 _ I2 q2) fun ws s3 ⟨ps,H3,I3,rel,q3⟩=>⟨(x,y)::ps,H3,I3,.cons ⟨rx,ry⟩ rel,q3⟩)
noncomputable def mergeK (kvs more:List (Key × V)):List (Key × V):=more.foldl (fun acc kv=>putK acc kv.1 kv.2) kvs
theorem KV.merge:∀ {more:List (Key × V)}{rs:List (Key × Value)}{kvs:List (Key × V)}{vs:List (Key × Value)},KV more rs→KV kvs vs→KV (mergeK kvs more) (merged vs rs):=by
 intro more rs kvs vs r
 unfold KV at r
 induction r generalizing kvs vs with
 | nil=>intro q; exact q
 | @cons p q ps qs h t ih =>
  intro r0
  have e:KV (putK kvs p.1 p.2) (stored vs q.1 q.2):=by
   have:=r0.put p.1 h.2
   rw [← h.1]; exact this
  exact ih e
theorem length_mergeK:∀ (more kvs:List (Key × V)),(mergeK kvs more).length≤kvs.length+more.length
 | [],kvs=>by show kvs.length≤kvs.length+0; omega
 | p::r,kvs=>by
  have h1:=length_mergeK r (putK kvs p.1 p.2)
  have h2:=length_putK kvs p.1 p.2
  show (mergeK (putK kvs p.1 p.2) r).length≤_
  rw [List.length_cons]; omega
theorem carries_of {P:Program}{w:World}:∀ {kvs:List (Key × V)}{ws:List (Value × Value)},VV (kvs.map fun kv=>(kV kv.1,kv.2)) ws→∃ rs,Carries (mixKind P w) ws rs∧KV kvs rs
 | [],_,r=>by rw [List.map_nil] at r; cases r; exact ⟨[],True.intro,.nil⟩
 | p::kvs,_,r=>by
  rw [List.map_cons] at r
  cases r with
  | @cons a b as bs h t =>
   obtain ⟨rs,c,q⟩:=carries_of (P:=P) (w:=w) t
   obtain ⟨b1,b2⟩:=b
   exact ⟨(p.1,b2)::rs,⟨kV_is h.1,rfl,c⟩,.cons ⟨rfl,h.2⟩ q⟩
noncomputable def tDisp (trs:List (TE × TE)):TE:=fun σ H Q=>∀ p,H p=none→tPairs trs σ (upd H p (.dK [])) fun ps H2=>H2 p=some (.dK [])∧∃ kvs:List (Key × V),ps=kvs.map (fun kv=>(kV kv.1,kv.2))∧kvs.length≤15∧Q (.ref p) (upd H2 p (.dK (mergeK [] kvs)))
theorem pe_disp {X:Cx}{pos:Pos}{keys:List (Option Expr)}{values:List Expr}{trs:List (TE × TE)} (h:PPs X pos keys values trs) (hall:keys.all (·.isSome)=true) (hl:keys.length=values.length) (h0:keys≠[])
  (h15:keys.length≤15):PE X (.Dict keys values pos) (tDisp trs):=by
 intro pins s σ H Q I q
 have hn:=I.hok.fresh (Nat.le_refl s.heap.objs.size)
 have I1:=I.laid (a:=s.heap.objs.size) (o:=.dK []) (h':=s.heap.push { cls:=.type "dict",data:=.dict #[] }) (t':=s.toks) (fun _ _ q=>Heap.get?_push_of_some _ q) (Nat.le_refl _) (dk_empty s.heap I.big)
 refine wpAny_Dict_walk (knd:=mixKind X.prog X.w) hall hl h0 h15 (thn (h pins _ σ _ _ I1 (q _ hn)) fun ws s2 ⟨ps,H2,I2,rel,e,kvs,ep,lk,q2⟩=>?_)
 subst ep
 obtain ⟨rs,c,rk⟩:=carries_of (P:=X.prog) (w:=X.w) rel
 obtain ⟨z,hd,vs0,r0,dd⟩:=dk_of I2.hok e
 cases r0
 refine ⟨rs,c,dd,fun h' dd' hs=>⟨.ref s.heap.objs.size,_,?_,rfl,q2⟩⟩
 have hz:(mergeK [] kvs).length≤sizeLine:=by
  have h1:=length_mergeK kvs []
  rw [List.length_nil] at h1
  rw [sizeLine_eq]; omega
 have he:∃ q,h'.get? s.heap.objs.size=some q:=let ⟨q,_,_,hq,_⟩:=dd'; ⟨q,hq⟩
 exact d_write I2 (by rw [e]; exact True.intro) hs he (dk_new hz hd (rk.merge .nil) dd')
structure M1 (X:Cx) (o:Expr) (m:Str) (apos:Pos) (e:Expr) (cpos:Pos):Prop where
 base:attributeBase o m X.env (eval o X.env)=eval o X.env
 few:((backTo cpos (starEach [e] X.env)).all (fun x=>!x.1)&&(backToKw cpos (keywordEach [] X.env)).all (fun x=>x.1.isSome)
  && decide (([e]:List Expr).length+([]:List Keyword).length+(if ([]:List Keyword).isEmpty then 0 else 1)<30))=true
 line:(apos.endLine == cpos.line)=true
 trees:backTo cpos (starEach [e] X.env)=[(false,eval e X.env)]
structure M2 (X:Cx) (o:Expr) (m:Str) (apos:Pos) (e f:Expr) (cpos:Pos):Prop where
 base:attributeBase o m X.env (eval o X.env)=eval o X.env
 few:((backTo cpos (starEach [e,f] X.env)).all (fun x=>!x.1)&&(backToKw cpos (keywordEach [] X.env)).all (fun x=>x.1.isSome)
  && decide (([e,f]:List Expr).length+([]:List Keyword).length+(if ([]:List Keyword).isEmpty then 0 else 1)<30))=true
 line:(apos.endLine == cpos.line)=true
 trees:backTo cpos (starEach [e,f] X.env)=[(false,eval e X.env),(false,eval f X.env)]
def WeakS (st st2:St):Prop:=st.length=st2.length∧∀ (i:Nat) v,st[i]?=some (some v)→st2[i]?=some (some v)
noncomputable def cxComp (X:Cx) (scope:Scope) (N:List Str) (cl:List (Str × Addr)) (s:Shared) (H:Hp) (C:Addr) (ex:List Addr):Cx where
 prog:=X.prog
 w:=X.w
 K:=X.K
 mg:=X.mg
 base:=X.base
 A:=X.A
 N:=N
 s₀:=s
 H₀:=H
 env:=compEnvC scope cl C X.env
 outer:=X.stack
 stack:=X.stack
 ex:=ex
 fn:=fun x=>decide ((x,NameKind.cell)∈scope.names)
 calm:=X.calm
 pn:=[]
 xe:=fun _ _=>False
noncomputable def clOf (env:Env):List (Str × NameKind)→List (Str × Addr)→List (Str × Addr)
 | [],acc=>acc
 | (n,k)::r,acc=>if k == .free then (match env.cells.lookup n with | some c=>clOf env r ((n,c)::acc) | none=>clOf env r acc) else clOf env r acc
theorem clOf_sub {env:Env}:∀ (ns:List (Str × NameKind)) (acc:List (Str × Addr)),(∀ x c,acc.lookup x=some c→env.cells.lookup x=some c)→∀ x c,(clOf env ns acc).lookup x=some c→env.cells.lookup x=some c
 | [],_,h=>h
 | (n,k)::r,acc,h=>by
  unfold clOf
  split
  ·split
   ·rename_i c hc
    refine clOf_sub r _ fun x d e=>?_
    rw [List.lookup_cons] at e
    cases hx:x == n with
    | true =>
     rw [hx] at e
     have:x=n:=by simpa using hx
     subst this
     cases e
     exact hc
    | false =>
     rw [hx] at e
     exact h x d e
   ·exact clOf_sub r _ h
  ·exact clOf_sub r _ h
theorem clOf_has {env:Env}:∀ (ns:List (Str × NameKind)) (acc:List (Str × Addr)) (x:Str),((∃ c,acc.lookup x=some c)∨((x,NameKind.free)∈ns∧∃ c,env.cells.lookup x=some c))→∃ c,(clOf env ns acc).lookup x=some c
 | [],acc,x,h=>by
  rcases h with h | ⟨h,_⟩
  ·exact h
  ·cases h
 | (n,k)::r,acc,x,h=>by
  unfold clOf
  split
  ·rename_i hk
   split
   ·rename_i c hc
    refine clOf_has r _ x ?_
    by_cases hx:x=n
    ·subst hx
     exact .inl ⟨c,by rw [List.lookup_cons]; simp⟩
    ·have hb:(x == n)=false:=by simpa using hx
     rcases h with ⟨d,h⟩ | ⟨h,d⟩
     ·exact .inl ⟨d,by rw [List.lookup_cons,hb]; exact h⟩
     ·rcases List.mem_cons.mp h with h | h
      ·cases h; exact absurd rfl hx
      ·exact .inr ⟨h,d⟩
   ·rename_i hc
    refine clOf_has r _ x ?_
    rcases h with h | ⟨h,d,hd⟩
    ·exact .inl h
    ·rcases List.mem_cons.mp h with h | h
     ·cases h
      rw [hc] at hd; cases hd
     ·exact .inr ⟨h,d,hd⟩
  ·rename_i hk
   refine clOf_has r _ x ?_
   rcases h with h | ⟨h,d⟩
   ·exact .inl h
   ·rcases List.mem_cons.mp h with h | h
    ·cases h
     exact absurd rfl hk
    ·exact .inr ⟨h,d⟩
theorem cellOf_ok {env:Env}{x:Str}{c:Addr} (h:env.cells.lookup x=some c):cellOf env x=pure c:=by
 unfold cellOf
 rw [h]
theorem closure_ok {env:Env}:∀ (ns:List (Str × NameKind)) (acc:List (Str × Addr)),(∀ x,(x,NameKind.free)∈ns→∃ c,env.cells.lookup x=some c) →
  (forIn ns acc fun (x:Str × NameKind) (r:List (Str × Addr))=>(match x with
   | (name,kind)=>if kind == NameKind.free then (do let c ← cellOf env name; pure (ForInStep.yield ((name,c)::r))) else pure (ForInStep.yield r):Sem (ForInStep (List (Str × Addr)))))=pure (clOf env ns acc)
 | [],acc,_=>rfl
 | (n,k)::r,acc,h=>by
  rw [List.forIn_cons]
  unfold clOf
  have hr:∀ x,(x,NameKind.free)∈r→∃ c,env.cells.lookup x=some c:=fun x hx=>h x (List.mem_cons_of_mem _ hx)
  by_cases hk:k=.free
  ·subst hk
   obtain ⟨c,hc⟩:=h n (List.mem_cons_self ..)
   dsimp only
   rw [hc,cellOf_ok hc]
   simp only [beq_self_eq_true,if_true,pure_bind]
   exact closure_ok r _ hr
  ·have hb:(k == NameKind.free)=false:=by simpa using hk
   simp only [hb,Bool.false_eq_true,if_false,pure_bind]
   exact closure_ok r _ hr
theorem closureFor_ok {scope:Scope}{env:Env} (h:∀ x,(x,NameKind.free)∈scope.names→∃ c,env.cells.lookup x=some c):closureFor scope env=pure (clOf env scope.names []):=by
 unfold closureFor
 have q:=closure_ok (env:=env) scope.names [] h
 simp only [bind_pure]
 refine Eq.trans ?_ q
 congr 1
theorem mem_of_look {ns:List (Str × NameKind)}{x:Str}{k:NameKind} (h:ns.lookup x=some k):(x,k)∈ns:=by
 induction ns with
 | nil=>cases h
 | cons a r ih =>
  obtain ⟨n,k'⟩:=a
  rw [List.lookup_cons] at h
  cases hx:x == n with
  | true =>
   rw [hx] at h
   have e:x=n:=by simpa using hx
   subst e
   cases h
   exact List.mem_cons_self ..
  | false =>
   rw [hx] at h
   exact List.mem_cons_of_mem _ (ih h)
theorem relabel_mem {scope:Scope}{env:Env}{x:Str}{k:NameKind} (h:(relabel scope env).names.lookup x=some k) (hc:k=.cell∨k=.free):(x,NameKind.free)∈scope.names∨(x,NameKind.cell)∈scope.names:=by
 have m:=mem_of_look h
 obtain ⟨⟨n,k'⟩,hm,e⟩:=List.mem_map.mp m
 dsimp only at e
 split at e
 ·rename_i hq
  cases e
  have:k'=.free:=by
   simp only [Bool.and_eq_true,beq_iff_eq] at hq
   exact hq.1.1
  subst this
  exact .inl hm
 ·cases e
  rcases hc with rfl | rfl
  ·exact .inr hm
  ·exact .inl hm
theorem cells_look:∀ (ns:List (Str × NameKind)) (h:Heap) (acc:List (Str × Addr)) {x:Str}{c:Addr},(cellsFrom h.objs.size ns acc).lookup x=some c →
  ((x,NameKind.cell)∈ns∧h.objs.size≤c∧(pushCells h ns).IsCell c none)∨((x,NameKind.cell)∉ns∧acc.lookup x=some c)
 | [],h,acc,x,c,e=>.inr ⟨by simp,e⟩
 | (n,k)::r,h,acc,x,c,e=>by
  unfold cellsFrom at e
  unfold pushCells
  by_cases hk:(k == NameKind.cell)=true
  ·rw [if_pos hk] at e ⊢
   have hk':k=.cell:=by simpa using hk
   rw [← Heap.size_push h { cls:=.type "cell",data:=.cell none }] at e
   rcases cells_look r _ _ e with ⟨q1,q2,q3⟩ | ⟨q1,q2⟩
   ·exact .inl ⟨List.mem_cons_of_mem _ q1,by rw [Heap.size_push] at q2; omega,q3⟩
   ·rw [List.lookup_cons] at q2
    cases hx:x == n with
    | true =>
     rw [hx] at q2
     cases q2
     have:x=n:=by simpa using hx
     subst this
     subst hk'
     exact .inl ⟨List.mem_cons_self ..,Nat.le_refl _,_,pushCells_keeps _ _ _ _ (Heap.get?_push_size _ rfl),rfl⟩
    | false =>
     rw [hx] at q2
     refine .inr ⟨fun z=>?_,q2⟩
     rcases List.mem_cons.mp z with z | z
     ·cases z; simp at hx
     ·exact q1 z
  ·rw [if_neg hk] at e ⊢
   rcases cells_look r h acc e with ⟨q1,q2,q3⟩ | ⟨q1,q2⟩
   ·exact .inl ⟨List.mem_cons_of_mem _ q1,q2,q3⟩
   ·refine .inr ⟨fun z=>?_,q2⟩
    rcases List.mem_cons.mp z with z | z
    ·cases z; exact hk rfl
    ·exact q1 z
theorem cells_inj:∀ (ns:List (Str × NameKind)) (n:Nat) (acc:List (Str × Addr)),(∀ x c,acc.lookup x=some c→c<n)→(∀ x y c,acc.lookup x=some c→acc.lookup y=some c→x=y) →
  ∀ x y c,(cellsFrom n ns acc).lookup x=some c→(cellsFrom n ns acc).lookup y=some c→x=y
 | [],n,acc,hb,hi=>hi
 | (m,k)::r,n,acc,hb,hi=>by
  unfold cellsFrom
  split
  ·refine cells_inj r (n+1) _ (fun x c e=>?_) fun x y c e1 e2=>?_
   ·rw [List.lookup_cons] at e
    cases hx:x == m with
    | true=>rw [hx] at e; cases e; exact Nat.lt_succ_self _
    | false=>rw [hx] at e; exact Nat.lt_succ_of_lt (hb x c e)
   ·rw [List.lookup_cons] at e1 e2
    cases hx:x == m with
    | true =>
     rw [hx] at e1
     cases e1
     cases hy:y == m with
     | true=>rw [show x=m by simpa using hx,show y=m by simpa using hy]
     | false=>rw [hy] at e2; exact absurd (hb y _ e2) (Nat.lt_irrefl _)
    | false =>
     rw [hx] at e1
     cases hy:y == m with
     | true=>rw [hy] at e2; cases e2; exact absurd (hb x _ e1) (Nat.lt_irrefl _)
     | false=>rw [hy] at e2; exact hi x y c e1 e2
  ·exact cells_inj r n acc hb hi
theorem cells_some:∀ (ns:List (Str × NameKind)) (n:Nat) (acc:List (Str × Addr)) {x:Str},((x,NameKind.cell)∈ns∨∃ c,acc.lookup x=some c)→∃ c,(cellsFrom n ns acc).lookup x=some c
 | [],n,acc,x,h=>by
  rcases h with h | h
  ·cases h
  ·exact h
 | (m,k)::r,n,acc,x,h=>by
  unfold cellsFrom
  split
  ·refine cells_some r _ _ ?_
   by_cases hx:x=m
   ·subst hx
    exact .inr ⟨n,by rw [List.lookup_cons]; simp⟩
   ·have hb:(x == m)=false:=by simpa using hx
    rcases h with h | ⟨c,h⟩
    ·rcases List.mem_cons.mp h with h | h
     ·cases h; exact absurd rfl hx
     ·exact .inl h
    ·exact .inr ⟨c,by rw [List.lookup_cons,hb]; exact h⟩
  ·rename_i hk
   refine cells_some r _ _ ?_
   rcases h with h | h
   ·rcases List.mem_cons.mp h with h | h
    ·cases h; exact absurd rfl hk
    ·exact .inl h
   ·exact .inr h
theorem wpAny_blockEnv {M:Model}{A:Around}{E:Value→Shared→Prop}{s:Shared}{scope:Scope}{globals:Addr}{closure:List (Str × Addr)}{qual:Str}{outer:Env}{Q:Env→Shared→Prop}
  (hQ:Q (newEnv scope s.heap.objs.size globals (cellsFrom (s.heap.push { cls:=.type "dict",data:=.dict #[] }).objs.size scope.names closure) qual none .none (some outer) builtinsNs) { s with heap:=pushCells (s.heap.push { cls:=.type "dict",data:=.dict #[] }) scope.names }) :
  wpAny M A (newFunctionEnv scope globals closure [] qual none .none (some outer)) Q E s:=by
 simp only [newFunctionEnv,Option.isSome_some,if_true]
 refine wpAny_bind (wpAny_alloc ?_)
 refine wpAny_bind (wpAny_layCells _ (fun name kind cells=>by cases hkc:kind == NameKind.cell <;> simp [hkc]) _ _ _ _ ?_)
 rw [List.forIn_nil]
 exact wpAny_bind (wpAny_pure (wpAny_pure hQ))
section
variable {X:Cx}{pins:List (Addr × Obj)}{σ:St}{H:Hp}{s:Shared}{scope:Scope}{N:List Str}{C:Addr}{ex:List Addr}
structure CompH (X:Cx) (scope:Scope) (N:List Str) (k:Nat) (js:List Nat):Prop where
 calm:X.calm=true
 kind:scope.kind=.function
 cell:∀ x,(x,NameKind.cell)∈scope.names→scope.names.lookup x=some .cell
 free:∀ x,(x,NameKind.free)∈scope.names→(X.env.kindOf x=some .cell∨X.env.kindOf x=some .free)
 names:∀ x∈scope.names,x.2=.local→scope.names.lookup x.1=some .local
 len:N.length=k+js.length
 js:∀ i j,js[i]?=some j→∃ x,N[k+i]?=some x∧X.N[j]?=some x∧scope.names.lookup x=some .free∧Vis X.env.scope x
theorem clSub {env:Env}{ns:List (Str × NameKind)}{x:Str}{c:Addr} (h:(clOf env ns []).lookup x=some c):env.cells.lookup x=some c:=clOf_sub _ _ (fun _ _ z=>by cases z) x c h
theorem Inv.compOk (I:Inv X pins σ H s) (hk:scope.kind=.function) (hf:∀ x,(x,NameKind.free)∈scope.names→∃ c,X.env.cells.lookup x=some c) {h:Heap} (hh:h.objs.size=C+1) (hC:s.heap.objs.size≤C) (hex:∀ b∈ex,FpOk X pins H b) (hxs:∀ b∈ex,b<s.heap.objs.size) :
  (cxComp X scope N (cellsFrom h.objs.size scope.names (clOf X.env scope.names [])) s H C ex).Ok where
 mod:=I.ok.mod
 kind:=hk
 glob:=I.ok.glob
 blt:=I.ok.blt
 above:=hC
 inj:=cells_inj _ _ _ (fun x c e=>by
  obtain ⟨v,q⟩:=I.cell x c (clSub e)
  rw [hh]; exact Nat.lt_succ_of_lt (Nat.lt_of_lt_of_le q.lt hC)) fun x y c e1 e2=>I.ok.inj x y c (clSub e1) (clSub e2)
 has:=fun x h=>by
  have m:=relabel_mem (scope:=scope) (env:=X.env) (x:=x) (k:=.cell)
  have m2:=relabel_mem (scope:=scope) (env:=X.env) (x:=x) (k:=.free)
  have q:(x,NameKind.free)∈scope.names∨(x,NameKind.cell)∈scope.names:=by
   rcases h with h | h
   ·exact m h (.inl rfl)
   ·exact m2 h (.inr rfl)
  refine cells_some _ _ _ ?_
  rcases q with q | q
  ·exact .inr (clOf_has _ _ x (.inr ⟨q,hf x q⟩))
  ·exact .inl q
 cab:=fun x c h e=>by
  rcases cells_look _ _ _ e with ⟨_,q,_⟩ | ⟨q,_⟩
  ·show s.heap.objs.size≤c; omega
  ·exact absurd (of_decide_eq_true h) q
 hd:=I.ok.hd
 frames:=I.ok.frames
 stk:=.inl rfl
 exf:=fun b hb=>⟨fun z=>by
   have z':b=C:=z
   exact Nat.lt_irrefl _ (Nat.lt_of_lt_of_le (hxs b hb) (by rw [z']; exact hC)),fun x c e=>by
   rcases cells_look _ _ _ e with ⟨_,q,_⟩ | ⟨_,q⟩
   ·exact Nat.ne_of_gt (Nat.lt_of_lt_of_le (hxs b hb) (Nat.le_trans hC (Nat.le_of_lt (Nat.lt_of_lt_of_le (by rw [hh]; exact Nat.lt_succ_self C) q))))
   ·exact (hex b hb).2.2.2.2.1 x c (clSub q)⟩
 bs:=I.bs
 bsz:=Nat.le_trans I.ok.bsz I.sz
 noex:=fun b o e hb=>by
  rcases (hex b hb).2.2.2.1 with z | z
  ·exact I.ok.noex b o e z
  ·exact Nat.lt_irrefl _ (Nat.lt_of_lt_of_le (Heap.lt_size e) (Nat.le_trans I.ok.bsz z))
 exfs:=fun b hb z=>by
  rcases List.mem_cons.mp (I.stkSub b z) with q | q
  ·exact (hex b hb).2.1 q
  ·exact (hex b hb).2.2.1 q
 funs:=I.stack
 frf:=I.stkFree
theorem compLoop_go {prog:Program}{w:World}{A:Around}{R:Result→Shared→Prop}{elt target iter:Expr}{ifs:List Expr}{scope:Scope}{pos:Pos}{it acc:Value}{env:Env}{s:Shared} (J:Nat→Shared→Prop)
  (turn:∀ n s,J n s→wpAny (model prog w) A (pyNext it) (fun r s1=>match r with
   | none=>R (.ok .next) s1
   | some v=>wpAny (model prog w) A (letOwnedTupleGo target it v) (fun _ s1'=>wpAny (model prog w) A (assign target env v) (fun _ s2 =>
     wpAny (model prog w) A (forIn ifs true fun c r=>if r=true then do let ok ← isTrue c env (eval c env); pure (ForInStep.yield ok) else pure (ForInStep.yield r)) (fun ok s3 =>
      if ok=true then wpAny (model prog w) A (eval elt env) (fun x s4 =>
       wpAny (model prog w) A (call (.builtin "list.append") [acc,x]) (fun _ s5=>∃ m,m<n∧J m s5) (notedBy (model prog w) A env fun e s'=>R (.error e) s') s4) (notedBy (model prog w) A env fun e s'=>R (.error e) s') s3
      else ∃ m,m<n∧J m s3) (notedBy (model prog w) A env fun e s'=>R (.error e) s') s2) (notedBy (model prog w) A env fun e s'=>R (.error e) s') s1') (notedBy (model prog w) A env fun e s'=>R (.error e) s') s1) (notedBy (model prog w) A env fun e s'=>R (.error e) s') s)
  (n:Nat) (h:J n s) :
  codeAny (model prog w) A (.compLoop (.ListComp elt [⟨target,iter,ifs,0⟩] scope pos) 0 it acc env) R s:=by
 refine codeAny_loop rfl J (fun n s hI=>?_) n h
 show wpAny _ A ((compTurn (.ListComp elt [⟨target,iter,ifs,0⟩] scope pos) 0 it acc env).onRaise (fun x=>do noteFrame x env; theTreesLotGoes x)) _ _ s
 refine wpAny_noted ?_
 rw [compTurn_list]
 refine wpAny_bind (wpAny_standAt (wpAny_bind (wpAny_mono (turn n s hI) (fun r s1 h1=>?_) fun _ _ h'=>h')))
 cases r with
 | none=>exact wpAny_pure h1
 | some v =>
  refine wpAny_bind (wpAny_mono h1 (fun _ s1' h1'=>?_) fun _ _ h'=>h')
  refine wpAny_bind (wpAny_mono h1' (fun _ s2 h2=>wpAny_bind (wpAny_mono h2 (fun ok s3 h3=>?_) fun _ _ h'=>h')) fun _ _ h'=>h')
  cases ok with
  | false=>exact wpAny_pure ⟨rfl,h3⟩
  | true =>
   exact wpAny_bind (wpAny_bind (wpAny_mono h3 (fun x s4 h4=>wpAny_bind (wpAny_mono h4 (fun _ s5 h5=>wpAny_pure (wpAny_pure ⟨rfl,h5⟩)) fun _ _ h'=>h')) fun _ _ h'=>h'))
def PTs (X:Cx) (ifs:List Expr) (t:TT):Prop :=
 ∀ (pins:List (Addr × Obj)) (s:Shared) (σ:St) (H:Hp) (Q:Bool→Hp→Prop),Inv X pins σ H s→t σ H Q →
  wpAny (model X.prog X.w) X.A (forIn ifs true fun c r=>if r=true then do let ok ← isTrue c X.env (eval c X.env); pure (ForInStep.yield ok) else pure (ForInStep.yield r)) (TP X pins σ Q) X.xe s
noncomputable def tYes:TT:=fun _ H Q=>Q true H
theorem pts_nil {X:Cx}:PTs X [] tYes:=fun pins s σ H Q I h=>wpAny_tests_nil ⟨H,I,h⟩
theorem pts_one {X:Cx}{c:Expr}{t:TT} (h:PT X c t):PTs X [c] t:=fun pins s σ H Q I hw=>wpAny_tests_one (h pins s σ H Q I hw)
def CTurn (J:It) (D:Addr) (W:Nat→Nat→List V→Hp→Prop) (Q:Hp→Prop) (g:TG) (tc:TT) (te:TE) (σ0:St) (i m:Nat) (ys:List V) (H2:Hp):Prop :=
 H2 D=some (.lst ys)∧((J.stop i H2∧Q H2)∨(J.go i H2∧ys.length<sizeLine∧∀ x H3,J.yld i H2 x H3→g x σ0 H3 fun σ4 H4=>WeakS σ0 σ4∧tc σ4 H4 fun b H5 =>
   if b=true then te σ4 H5 fun y H6=>H6 D=some (.lst ys)∧∃ m',m'<m∧W (i+1) m' (ys++[y]) (upd H6 D (.lst (ys++[y]))) else ∃ m',m'<m∧W (i+1) m' ys H5))
noncomputable def stC (k:Nat) (js:List Nat) (σ:St):St:=List.replicate k Option.none++js.map fun j=>(σ[j]?).getD Option.none
noncomputable def tComp (wi:TI) (k:Nat) (js:List Nat) (g:TG) (tc:TT) (te:TE):TE:=fun σ H Q =>
 wi σ H fun J H1=>∀ D,H1 D=none→∃ W:Nat→Nat→List V→Hp→Prop,(∃ m,W 0 m [] (upd H1 D (.lst [])))∧∀ i m ys H2,W i m ys H2→CTurn J D W (Q (.ref D)) g tc te (stC k js σ) i m ys H2
theorem stC_get {k:Nat}{js:List Nat}{σ:St}{i:Nat}{v:V} (h:(stC k js σ)[i]?=some (some v)):∃ j,k≤i∧js[i - k]?=some j∧σ[j]?=some (some v):=by
 unfold stC at h
 by_cases hi:i<k
 ·rw [List.getElem?_append_left (by simpa using hi),List.getElem?_replicate] at h
  simp [hi] at h
 ·rw [List.getElem?_append_right (by simpa using hi),List.length_replicate,List.getElem?_map] at h
  cases e:js[i - k]? with
  | none=>rw [e] at h; simp at h
  | some j =>
   rw [e] at h
   simp only [Option.map_some,Option.some.injEq] at h
   refine ⟨j,by omega,rfl,?_⟩
   cases q:σ[j]? with
   | none=>rw [q] at h; simp at h
   | some z =>
    rw [q] at h
    simp at h
    rw [h]
theorem relabel_free {scope:Scope}{env:Env}{x:Str} (h:scope.names.lookup x=some .free):(relabel scope env).names.lookup x=some .cell∨(relabel scope env).names.lookup x=some .free:=by
 unfold relabel
 dsimp only
 generalize scope.names=ns at h
 induction ns with
 | nil=>cases h
 | cons a r ih =>
  obtain ⟨n,k⟩:=a
  rw [List.lookup_cons] at h
  rw [List.map_cons]
  cases hx:x == n with
  | true =>
   rw [hx] at h
   cases h
   dsimp only
   split
   ·exact .inl (by rw [List.lookup_cons,hx])
   ·exact .inr (by rw [List.lookup_cons,hx])
  | false =>
   rw [hx] at h
   dsimp only
   split
   ·rw [List.lookup_cons,hx]; exact ih h
   ·rw [List.lookup_cons,hx]; exact ih h
inductive CInv (Y:Cx) (σ0:St) (tn:Nat→Heap→Prop) (fp:List Addr) (W:Nat→Nat→List V→Hp→Prop) (n:Nat) (s:Shared):Prop
 | mk (i:Nat) (ys:List V) (H:Hp) (I:Inv Y [] σ0 H s) (st:tn i s.heap) (fr:∀ b∈fp,H b=none) (w:W i n ys H)
theorem comp_loop {Y:Cx}{elt iter tg:Expr}{ifs:List Expr}{scope:Scope}{pos:Pos}{g:TG}{tc:TT}{te:TE}{J:It}{fp:List Addr}{it D:Addr}{tn:Nat→Heap→Prop}{σ0:St}{W:Nat→Nat→List V→Hp→Prop}{Q:Hp→Prop}{R:Result→Shared→Prop}
  (hc:Y.calm=true) (hx:Y.xe=fun _ _=>False) (T:Turn Y.prog Y.w Y.K tg J fp it tn) (stat:∀ H',(∀ b∈fp,H' b=none)→∀ b∈fp,FpOk Y [] H' b)
  (hg:PG Y tg g) (htc:PTs Y ifs tc) (hte:PE Y elt te) (turn:∀ i m ys H2,W i m ys H2→CTurn J D W Q g tc te σ0 i m ys H2) (fin:∀ H4 s5,Inv Y [] σ0 H4 s5→Q H4→R (.ok .next) s5)
  {s:Shared}{n:Nat} (h0:CInv Y σ0 tn fp W n s) (st3:tn 0 s.heap):codeAny (model Y.prog Y.w) Y.A (.compStart (.ListComp elt [⟨tg,iter,ifs,0⟩] scope pos) 0 (.ref it) (.ref D) Y.env) R s:=by
 have loop:codeAny (model Y.prog Y.w) Y.A (.compLoop (.ListComp elt [⟨tg,iter,ifs,0⟩] scope pos) 0 (.ref it) (.ref D) Y.env) R s:=by
  refine compLoop_go (CInv Y σ0 tn fp W) ?_ n h0
  rintro n s4 ⟨i,ys,H4,I4,st4,fr4,w4⟩
  obtain ⟨hD4,hd⟩:=turn i n ys H4 w4
  rcases hd with ⟨stop,q⟩ | ⟨go,hz,step⟩
  ·refine thn (T.done Y rfl rfl rfl hc i [] s4 _ H4 _ I4 (stat _ fr4) st4 stop) fun r s5 ⟨hr,I5⟩=>?_
   subst hr
   exact fin H4 s5 I5 q
  ·refine thn (T.item Y rfl rfl rfl hc i [] s4 _ H4 _ I4 (stat _ fr4) st4 go) fun r s5 ⟨u,hr,h5⟩=>?_
   subst hr
   refine thn h5 fun _ s6 ⟨x,H6,I6,r6,y6,st6,fr6⟩=>?_
   have I6':=I6.pinned (stat _ fr6) (T.obj _ _ st6)
   have back:∀ {σ7:St}{H7:Hp}{s7:Shared}{m:Nat}{zs:List V},Inv Y ([]++pinsAt fp s6.heap) σ7 H7 s7→WeakS σ0 σ7→W (i+1) m zs H7→CInv Y σ0 tn fp W m s7:=fun {σ7 H7 s7 m zs} I7 hw w7=>by
    refine ⟨i+1,zs,H7,I7.unpinned.weak hw.1 hw.2,T.keep _ _ _ st6 fun b hb o e=>(I7.pin (b,o) (List.mem_append_right _ (List.mem_append_right _ (mem_pinsAt hb e)))).1,fun b hb=>?_,w7⟩
    obtain ⟨o,e,d⟩:=T.obj _ _ st6 b hb
    exact (I7.pin (b,o) (List.mem_append_right _ (List.mem_append_right _ (mem_pinsAt hb e)))).2.1
   have no:∀ {E:Value→Shared→Prop} (e:Value) (s':Shared),Y.xe e s'→E e s':=fun e s' z=>by rw [hx] at z; exact z.elim
   refine wpAny_mono (hg _ s6 _ H6 x u _ I6' r6 (step x H6 y6)) (fun _ s7 ⟨σ7,H7,I7,hw7,q7⟩=>?_) no
   refine wpAny_mono (htc _ s7 σ7 H7 _ I7 q7) (fun b s8 ⟨H8,I8,q8⟩=>?_) no
   cases b with
   | false =>
    obtain ⟨m',hm,w8⟩:=(show ∃ m',m'<n∧W (i+1) m' ys H8 by simpa using q8)
    rw [if_neg (by decide)]
    exact ⟨m',hm,back I8 hw7 w8⟩
   | true =>
    rw [if_pos rfl] at q8
    rw [if_pos rfl]
    refine wpAny_mono (hte _ s8 σ7 H8 _ I8 q8) (fun y s9 ⟨vy,H9,I9,r9,q9⟩=>?_) no
    obtain ⟨hD9,m',hm,w9⟩:=q9
    refine wpAny_mono (mt_append (X:=Y) _ s9 σ7 H9 (.ref D) [vy] (.ref D) [y] (fun _ H'=>W (i+1) m' (ys++[vy]) H') I9 rfl (.cons r9 .nil) ⟨_,ys,vy,rfl,rfl,hD9,hz,w9⟩) (fun z s10 ⟨_,H10,I10,_,q10⟩=>?_) no
    exact ⟨m',hm,back I10 hw7 q10⟩
 exact codeAny_compStart_list loop (T.self _ 0 _ _ _ st3 loop)
theorem comp_enter {elt iter tg:Expr}{ifs:List Expr}{pos:Pos}{k:Nat}{js:List Nat}{J:It}{fp:List Addr}{it:Addr}{tn:Nat→Heap→Prop}{H2:Hp}{s2:Shared}{RR:Value→Addr→Result→Shared→Prop}
  (B:CompH X scope N k js) (I2:Inv X pins σ H2 s2) (T:Turn X.prog X.w X.K tg J fp it tn) (st2:tn 0 s2.heap) (f2:∀ b∈fp,FpOk X pins H2 b)
  (h:∀ (cl:List (Str × Addr)) (C:Addr) (s4:Shared),s2.heap.objs.size≤C→s2.heap.objs.size≠C→Inv (cxComp X scope N cl s2 H2 C fp) [] (stC k js σ) (upd H2 s2.heap.objs.size (.lst [])) s4→tn 0 s4.heap →
   codeAny (model X.prog X.w) X.A (.compStart (.ListComp elt [⟨tg,iter,ifs,0⟩] scope pos) 0 (.ref it) (.ref s2.heap.objs.size) (compEnvC scope cl C X.env)) (RR (.ref s2.heap.objs.size) C) s4) :
  wpAny (model X.prog X.w) X.A (newList []) (fun acc s3=>wpAny (model X.prog X.w) X.A (newFunctionEnv scope X.env.globals (clOf X.env scope.names []) [] X.env.qual none .none (some X.env)) (fun cenv s4 =>
   codeAny (model X.prog X.w) X.A (.compStart (.ListComp elt [⟨tg,iter,ifs,0⟩] scope pos) 0 (.ref it) acc { cenv with scope:=relabel scope X.env }) (RR acc cenv.locals) s4) X.xe s3) X.xe s2:=by
 have hcell:∀ x,(x,NameKind.free)∈scope.names→∃ c,X.env.cells.lookup x=some c:=fun x hx=>I2.ok.has x (B.free x hx)
 refine wpAny_newObj_type (wpAny_blockEnv ?_)
 dsimp only
 generalize hP:s2.heap.push { cls:=.type "list",dict:=none,data:=.seq ([]:List Value).toArray }=P
 have hPs:P.objs.size=s2.heap.objs.size+1:=by rw [← hP,Heap.size_push]
 have hDC:s2.heap.objs.size≠P.objs.size:=by rw [hPs]; exact Nat.ne_of_lt (Nat.lt_succ_self _)
 have hCle:s2.heap.objs.size≤P.objs.size:=by rw [hPs]; exact Nat.le_succ _
 generalize hP2:P.push { cls:=.type "dict",data:=.dict #[] }=P2
 have hP2s:P2.objs.size=P.objs.size+1:=by rw [← hP2,Heap.size_push]
 have hns1:(pushCells P2 scope.names).Ns P.objs.size (fun _=>none):=(hP2▸Heap.Ns.new P (.type "dict")).keeps (pushCells_keeps _ _)
 have old:∀ b o,s2.heap.get? b=some o→(pushCells P2 scope.names).get? b=some o:=fun b o e=>pushCells_keeps _ _ _ _ (hP2▸Heap.get?_push_of_some _ (hP▸Heap.get?_push_of_some _ e))
 have hacc:(pushCells P2 scope.names).get? s2.heap.objs.size=some { cls:=.type "list",dict:=none,data:=.seq ([]:List Value).toArray }:=pushCells_keeps _ _ _ _ (hP2▸Heap.get?_push_of_some _ (hP▸Heap.get?_push_size _ rfl))
 have hfx:∀ b∈fp,b<s2.heap.objs.size:=fun b hb=>by
  obtain ⟨o,e,_⟩:=T.obj _ _ st2 b hb
  exact Heap.lt_size e
 have ok:=I2.compOk (N:=N) (C:=P.objs.size) (ex:=fp) B.kind hcell hP2s hCle f2 hfx
 refine h (cellsFrom P2.objs.size scope.names (clOf X.env scope.names [])) P.objs.size _ hCle hDC ?_ (T.keep _ _ _ st2 fun b _ o e=>old b o e)
 refine ⟨ok,rfl,I2.bare,Un.laid old (Nat.le_refl _) (I2.hok.fresh (Nat.le_refl _)),⟨_,hns1,fun i x v e1 e2 e3=>?_⟩,fun x c e=>?_,?_,fun x c e=>?_,fun p hp=>(by cases hp),I2.hok.laid old (Nat.le_refl _) ?_,?_⟩
 ·obtain ⟨j,hki,hj,hv⟩:=stC_get e2
  obtain ⟨y,n1,n2,n3,n4⟩:=B.js _ j hj
  have ei:k+(i - k)=i:=by omega
  rw [ei] at n1
  have e1':N[i]?=some x:=e1
  rw [n1] at e1'
  cases e1'
  obtain ⟨m,hn,hl⟩:=I2.loc
  obtain ⟨u,r,lk⟩:=hl j x v n2 hv n4
  refine ⟨u,r,?_⟩
  have mem:=mem_of_look n3
  rcases lk with ⟨kk,_⟩ | ⟨kk,c,ec,ce⟩
  ·rcases B.free x mem with z | z
   ·rw [z] at kk; cases kk
   ·rw [z] at kk; cases kk
  ·obtain ⟨c0,ec0⟩:=cells_some scope.names P2.objs.size _ (.inr (clOf_has (env:=X.env) scope.names [] x (.inr ⟨mem,c,ec⟩)))
   have hc0:c0=c:=by
    rcases cells_look _ _ _ ec0 with ⟨q,_⟩ | ⟨_,q⟩
    ·have:=B.cell x q; rw [n3] at this; cases this
    ·have:=clSub q; rw [ec] at this; cases this; rfl
   subst hc0
   refine .inr ⟨relabel_free n3,c0,ec0,?_⟩
   obtain ⟨o,ho,hd⟩:=ce
   exact ⟨o,old _ _ ho,hd⟩
 ·rcases cells_look _ _ _ e with ⟨_,_,q⟩ | ⟨_,q⟩
  ·exact ⟨_,q⟩
  ·obtain ⟨v,o,ho,hd⟩:=I2.cell x c (clSub q)
   exact ⟨v,o,old _ _ ho,hd⟩
 ·show upd H2 s2.heap.objs.size (.lst []) P.objs.size=none
  rw [upd_ne (Ne.symm hDC)]
  exact I2.hok.fresh hCle
 ·rcases cells_look _ _ _ e with ⟨_,q,_⟩ | ⟨_,q⟩
  ·have hlt:s2.heap.objs.size<c:=Nat.lt_of_lt_of_le (by rw [hP2s,hPs]; omega) q
   rw [upd_ne (Nat.ne_of_gt hlt)]
   exact I2.hok.fresh (Nat.le_of_lt hlt)
  ·obtain ⟨v,o,ho,hd⟩:=I2.cell x c (clSub q)
   rw [upd_ne (Nat.ne_of_lt (Heap.lt_size ho))]
   exact I2.freeC x c (clSub q)
 ·exact ⟨Nat.zero_le _,[],_,.nil,hacc⟩
 ·unfold stC
  rw [List.length_append,List.length_replicate,List.length_map]
  exact B.len.symm
theorem comp_run {elt iter tg:Expr}{ifs:List Expr}{pos:Pos}{k:Nat}{js:List Nat}{g:TG}{tc:TT}{te:TE}{J:It}{fp:List Addr}{it:Addr}{tn:Nat→Heap→Prop}{H2:Hp}{s2:Shared}{RR:Value→Addr→Result→Shared→Prop}{Q:V→Hp→Prop}
  (B:CompH X scope N k js) (I2:Inv X pins σ H2 s2) (T:Turn X.prog X.w X.K tg J fp it tn) (st2:tn 0 s2.heap) (f2:∀ b∈fp,FpOk X pins H2 b)
  (hg:∀ cl s H C ex,PG (cxComp X scope N cl s H C ex) tg g) (htc:∀ cl s H C ex,PTs (cxComp X scope N cl s H C ex) ifs tc) (hte:∀ cl s H C ex,PE (cxComp X scope N cl s H C ex) elt te)
  (hW:∀ D,H2 D=none→∃ W:Nat→Nat→List V→Hp→Prop,(∃ m,W 0 m [] (upd H2 D (.lst [])))∧∀ i m ys H2,W i m ys H2→CTurn J D W (Q (.ref D)) g tc te (stC k js σ) i m ys H2)
  (fin:∀ cl C H4 s5,s2.heap.objs.size≤C→s2.heap.objs.size≠C→Inv (cxComp X scope N cl s2 H2 C fp) [] (stC k js σ) H4 s5→Q (.ref s2.heap.objs.size) H4→RR (.ref s2.heap.objs.size) C (.ok .next) s5) :
  wpAny (model X.prog X.w) X.A (newList []) (fun acc s3=>wpAny (model X.prog X.w) X.A (newFunctionEnv scope X.env.globals (clOf X.env scope.names []) [] X.env.qual none .none (some X.env)) (fun cenv s4 =>
   codeAny (model X.prog X.w) X.A (.compStart (.ListComp elt [⟨tg,iter,ifs,0⟩] scope pos) 0 (.ref it) acc { cenv with scope:=relabel scope X.env }) (RR acc cenv.locals) s4) X.xe s3) X.xe s2:=by
 obtain ⟨W,⟨m0,w0⟩,turn⟩:=hW s2.heap.objs.size (I2.hok.fresh (Nat.le_refl _))
 refine comp_enter B I2 T st2 f2 fun cl C s4 h1 h2 I4 st4=>?_
 refine comp_loop (Y:=cxComp X scope N cl s2 H2 C fp) B.calm rfl T (fun H' hn b hb=>⟨hn b hb,(I4.ok.exf b hb).1,I4.ok.exfs b hb,.inl hb,(I4.ok.exf b hb).2,fun p hp=>by cases hp⟩) (hg _ _ _ _ _) (htc _ _ _ _ _) (hte _ _ _ _ _) turn (fun H4 s5 I5 q=>fin cl C H4 s5 h1 h2 I5 q) (n:=m0) ⟨0,[],_,I4,st4,fun b hb=>?_,w0⟩ st4
 obtain ⟨o,e,_⟩:=T.obj _ _ st2 b hb
 rw [upd_ne (Nat.ne_of_lt (Heap.lt_size e))]
 exact (f2 b hb).1
theorem pe_comp {elt iter tg:Expr}{ifs:List Expr}{pos:Pos}{wi:TI}{g:TG}{tc:TT}{te:TE}{k:Nat}{js:List Nat} (B:CompH X scope N k js) (hi:PI X tg iter wi)
  (hg:∀ cl s H C ex,PG (cxComp X scope N cl s H C ex) tg g) (htc:∀ cl s H C ex,PTs (cxComp X scope N cl s H C ex) ifs tc) (hte:∀ cl s H C ex,PE (cxComp X scope N cl s H C ex) elt te)
  (hs:∀ x,foldedSetIterable iter X.env x=pure x:=by intro _; rfl):PE X (.ListComp elt [⟨tg,iter,ifs,0⟩] scope pos) (tComp wi k js g tc te):=by
 intro pins s σ H Q I h
 rw [eval_ListComp]
 refine wpAny_comprehension_free (use:=none) rfl hs (closureFor_ok fun x hx=>I.ok.has x (B.free x hx)) B.kind B.names (thn (hi pins s σ H _ I h) fun v s1 h1=>thn h1 fun itv s2 h2=>?_)
 obtain ⟨it,fp,tn,J,H2,e,I2,T,st2,f2,hW⟩:=h2
 subst e
 refine comp_run B I2 T st2 f2 hg htc hte hW fun cl C H4 s5 hCle hDC I5 q=>?_
 obtain ⟨m,hn,_⟩:=id I5.loc
 have hC4:H4 C=none:=I5.free
 refine ⟨m,hn,fun h' hs'=>⟨.ref s2.heap.objs.size,H4,?_,rfl,q⟩⟩
 have bl:∀ b o,s2.heap.get? b=some o→b≠C:=fun b o e=>Nat.ne_of_lt (Nat.lt_of_lt_of_le (Heap.lt_size e) hCle)
 refine I2.call' (s':={ s5 with heap:=h' }) (ch:=fp) I5.os ?_ (fun b u e=>?_) I5.bare (fun b hb=>⟨(f2 b hb).2.2.2.1,(f2 b hb).2.1,(f2 b hb).2.2.2.2.1,(f2 b hb).2.2.2.2.2⟩)
 ·have U:=I5.base
  exact ⟨fun b o e n hb hx=>(hs'.2 b (bl b o e)).trans (U.keep b o e n hb hx),fun b o e n hb hx=>by
    obtain ⟨sl,z⟩:=U.slot b o e n hb hx
    exact ⟨sl,(hs'.2 b (bl b o e)).trans z⟩,U.free,fun b o e hx=>by
    obtain ⟨o',z⟩:=U.there b o e hx
    exact ⟨o',(hs'.2 b (bl b o e)).trans z⟩,U.tups,U.frzs,U.tbls⟩
 ·refine (I5.hok b u e).stay (fun c w' hcc q'=>(hs'.2 c ?_).trans q') (fun _ q'=>q') fun _ _ q'=>q'
  rintro rfl
  rcases hcc with rfl | hcc
  ·rw [hC4] at e; cases e
  ·rw [hC4] at hcc; cases hcc
end
theorem same_new {H:Hp}{p:Addr} (h:H p=none) (o:HO):Same H (upd H p o):=fun b u q=>by rw [upd_ne (ne_of_none q h)]; exact q
theorem Same.tup {K:W.Frag}{H H':Hp}{a:Addr}{xs:List V} (e:Same H H') (h:SqT K H a xs):SqT K H' a xs:=by
 rcases h with (h | ⟨o,h⟩) | h
 ·exact .inl (.inl (e _ _ h))
 ·exact .inl (.inr ⟨o,e _ _ h⟩)
 ·exact .inr h
section
variable {X:Cx}{pins:List (Addr × Obj)}{σ:St}{H:Hp}{s:Shared}
theorem Inv.yields {wr:List Addr}{h':Heap}{tk:Nat}{T:Addr}{xs:List V}{its:List Value} (I:Inv X pins σ H s) (hf:∀ b∈wr,FpOk X pins H b) (k:∀ b o,b∉wr→s.heap.get? b=some o→h'.get? b=some o)
  (hT:s.heap.objs.size≤T) (r:Vals xs its) (hz:xs.length≤sizeLine) (ht:IsTup h' T its.toArray):Inv X pins σ (upd H T (.tup xs)) { s with heap:=h',toks:=tk }:=by
 have nT:∀ b o,s.heap.get? b=some o→b≠T:=fun b o e=>Nat.ne_of_lt (Nat.lt_of_lt_of_le (Heap.lt_size e) hT)
 have hH:∀ b u,H b=some u→b≠T:=fun b u e=>Nat.ne_of_lt (Nat.lt_of_lt_of_le (I.hok.lt e) hT)
 have nw:∀ b u,H b=some u→b∉wr:=fun b u e hb=>by rw [(hf b hb).1] at e; cases e
 refine I.call' (s':={ s with heap:=h',toks:=tk }) (ch:=wr) rfl ⟨fun b o e n _ hx=>k b o hx e,fun b o e n _ hx=>⟨o.slots,k b o hx e⟩,fun b o e n _=>?_,fun b o e hx=>⟨o,k b o hx e⟩,fun b ys e=>?_,fun b o u e=>?_,fun b ps e=>⟨#[],?_⟩⟩ (fun b u e=>?_) I.bare
  (fun b hb=>⟨(hf b hb).2.2.2.1,(hf b hb).2.1,(hf b hb).2.2.2.2.1,(hf b hb).2.2.2.2.2⟩)
 ·rw [upd_ne (nT b o e)]; exact n
 ·rw [upd_ne (hH b _ e)]; exact e
 ·rw [upd_ne (hH b _ e)]; exact e
 ·rw [upd_ne (hH b _ e),e]; simp
 ·by_cases hb:b=T
  ·subst hb
   rw [upd_same] at e
   cases e
   exact ⟨hz,its,r,ht⟩
  ·rw [upd_ne hb] at e
   refine (I.hok b u e).stay (fun c v hc q=>k c v ?_ q) (fun c q=>?_) fun c ys q=>?_
   ·rcases hc with rfl | hc
    ·exact nw _ _ e
    ·exact nw _ _ hc
   ·rw [upd_ne (hH c _ q)]; exact q
   ·rw [upd_ne (hH c _ q)]; exact q
theorem Inv.turnedL {wr:List Addr}{h':Heap}{tk:Nat} (I:Inv X pins σ H s) (hf:∀ b∈wr,FpOk X pins H b) (k:∀ b o,b∉wr→s.heap.get? b=some o→h'.get? b=some o):Inv X pins σ H { s with heap:=h',toks:=tk }:=by
 have nw:∀ b u,H b=some u→b∉wr:=fun b u e hb=>by rw [(hf b hb).1] at e; cases e
 refine I.call' (s':={ s with heap:=h',toks:=tk }) (ch:=wr) rfl ⟨fun b o e n _ hx=>k b o hx e,fun b o e n _ hx=>⟨o.slots,k b o hx e⟩,fun b o e n _=>n,fun b o e hx=>⟨o,k b o hx e⟩,fun b ys e=>e,fun b o u e=>e,fun b ps e=>⟨#[],by rw [e]; simp⟩⟩ (fun b u e=>?_) I.bare
  (fun b hb=>⟨(hf b hb).2.2.2.1,(hf b hb).2.1,(hf b hb).2.2.2.2.1,(hf b hb).2.2.2.2.2⟩)
 refine (I.hok b u e).stay (fun c v hc q=>k c v ?_ q) (fun c q=>q) fun c ys q=>q
 rcases hc with rfl | hc
 ·exact nw _ _ e
 ·exact nw _ _ hc
end
section
variable {X:Cx}
theorem call_range2:CallR X (.type "range") (fun vs H Q=>∃ i j:Int,vs=[.int i,.int j]∧∀ p,H p=none→Q (.ref p) (upd H p (.rng i j))):=by
 intro pins s σ H xs us Q I r h
 obtain ⟨i,j,rfl,q⟩:=h
 obtain ⟨u,v,rfl,ru,rv⟩:=vals2 r
 obtain ⟨t,rfl⟩:=ru
 obtain ⟨t',rfl⟩:=rv
 refine call_range_2 ⟨.ref s.heap.objs.size,_,I.laid (o:=.rng i j) (fun b o e=>Heap.get?_push_of_some _ e) (Nat.le_refl _) ?_,rfl,q _ (I.hok.fresh (Nat.le_refl _))⟩
 exact ⟨_,_,_,Heap.get?_push_size _ rfl⟩
theorem call_range1:CallR X (.type "range") (fun vs H Q=>∃ j:Int,vs=[.int j]∧∀ p,H p=none→Q (.ref p) (upd H p (.rng 0 j))):=by
 intro pins s σ H xs us Q I r h
 obtain ⟨j,rfl,q⟩:=h
 obtain ⟨u,rfl,ru⟩:=vals1 r
 obtain ⟨t,rfl⟩:=ru
 refine call_range_1 ⟨.ref s.heap.objs.size,_,I.laid (o:=.rng 0 j) (fun b o e=>Heap.get?_push_of_some _ e) (Nat.le_refl _) ?_,rfl,q _ (I.hok.fresh (Nat.le_refl _))⟩
 exact ⟨_,_,_,Heap.get?_push_size _ rfl⟩
noncomputable def upV (lo:Int) (n:Nat):List V:=(List.range n).map fun k=>V.int (lo+(k:Nat))
theorem vals_up {lo:Int}{n:Nat}{acc:Array Value} (h:ItemsOf (fun i v=>∃ t,v=.int (lo+i*1) t) acc n):Vals (upV lo n) acc.toList:=by
 obtain ⟨hs,h⟩:=h
 have key:∀ (k:Nat) (us:List Value) (lo:Int),us.length=k→(∀ (i:Nat) (v:Value),us[i]?=some v→∃ t,v=Value.int (lo+(i:Nat)) t)→Vals ((List.range k).map fun j=>V.int (lo+(j:Nat))) us:=by
  intro k
  induction k with
  | zero=>intro us lo hl _; cases us with
   | nil=>exact .nil
   | cons a r=>simp at hl
  | succ k ih =>
   intro us lo hl hh
   cases us with
   | nil=>simp at hl
   | cons a r =>
    rw [List.range_succ_eq_map,List.map_cons,List.map_map]
    refine .cons ?_ ?_
    ·obtain ⟨t,e⟩:=hh 0 a rfl
     exact ⟨t,e⟩
    ·have:=ih r (lo+1) (by simpa using hl) fun i v e=>by
      obtain ⟨t,q⟩:=hh (i+1) v (by simpa using e)
      exact ⟨t,by rw [q]; congr 1; omega⟩
     have e:((fun (j:Nat)=>V.int (lo+(j:Nat)))∘Nat.succ)=fun (j:Nat)=>V.int (lo+1+(j:Nat)):=by
      funext j
      simp only [Function.comp]
      congr 1
      omega
     rw [e]
     exact this
 exact key n acc.toList lo (by simpa using hs) fun i v e=>by
  obtain ⟨t,q⟩:=h i v (by simpa using e)
  exact ⟨t,by rw [q,Int.mul_one]⟩
theorem call_list_rng (hc:X.calm=true):CallR X (.type "list") (fun vs H Q=>∃ p i j,vs=[.ref p]∧H p=some (.rng i j)∧-(2 ^ 62)≤i∧i<2 ^ 62∧-(2 ^ 62)≤j∧j<2 ^ 62∧(j - i).toNat≤1000∧∀ l,H l=none→Q (.ref l) (upd H l (.lst (upV i (j - i).toNat)))):=by
 intro pins s σ H xs us Q I r h
 obtain ⟨p,i,j,rfl,hp,b1,b2,b3,b4,hn,q⟩:=h
 obtain ⟨u,rfl,ru⟩:=vals1 r
 cases ru
 obtain ⟨t,u,v,e⟩:=(show ObjOk X.prog X.w H s.heap p (.rng i j) from I.hok _ _ hp)
 refine call_list_range (n:=(j - i).toNat) (I.ok.hd hc) (show IsRange s.heap p i j 1 t u v from e) (small_one b1 b2 b3 b4) (by rw [rangeSize_one]; split <;> omega) (Nat.le_trans hn (by decide)) fun h' tk acc' c' hk he hi=>?_
 have hv:=vals_up hi
 refine ⟨.ref s.heap.objs.size,_,I.laid (o:=.lst (upV i (j - i).toNat)) hk (Nat.le_refl _) ⟨?_,acc'.toList,c',hv,by simpa using he⟩,rfl,q _ (I.hok.fresh (Nat.le_refl _))⟩
 unfold upV
 rw [List.length_map,List.length_range]
 exact Nat.le_trans hn (by decide)
noncomputable def rInsert:V→List V→Hp→VK→Prop:=fun x vs H Q=>∃ (l:Addr) (xs:List V) (i:Nat) (y:V),x=.ref l∧vs=[.int i,y]∧H l=some (.lst xs)∧xs.length<1000∧i≤xs.length∧Q .non (upd H l (.lst (xs.take i++y::xs.drop i)))
theorem mt_insert:MtM X "list.insert" rInsert:=by
 intro pins s σ H x vs v us Q I rx rv h
 obtain ⟨l,xs,i,y,rfl,rfl,hH,hz,hi,q⟩:=h
 cases rx
 obtain ⟨u1,u2,rfl,r1,r2⟩:=rv.two
 obtain ⟨t,rfl⟩:=r1
 obtain ⟨z,its,n,r,hl,e⟩:=I.lstM hH
 generalize hx:((i:Nat):Int)=x
 have hx0:0≤x:=by omega
 have hx1:x.toNat=i:=by omega
 have hfit:¬ (!Builtin.List.listFitsIndex x)=true:=by
  rw [fitsIndex_both (by omega) (by omega)]
  exact Bool.false_ne_true
 have hsz:its.toArray.size≤sizeLine:=by rw [List.size_toArray,← hl]; exact z
 refine call_meets F.slot_list_insert ⟨_,e,rfl⟩ F.entry_list_insert (F.args_list_insert_3 _ _ _) (PySem.AutoSeq1.list_insert_list_int_val_1 l _ n x t u2 hfit hsz) ⟨e,?_⟩
 refine ⟨.non,_,I.lset (its':=its.take i++u2::its.drop i) hH e ?_ ((r.take i).append (.cons r2 (r.drop i))) ?_,rfl,q⟩
 ·have hk:(if x<0 then (x+((its.toArray.size:Nat):Int)).toNat else min x.toNat its.toArray.size)=i:=by
   rw [if_neg (by omega),List.size_toArray]
   omega
  show (its.toArray.extract 0 (if x<0 then (x+((its.toArray.size:Nat):Int)).toNat else min x.toNat its.toArray.size)).push u2++its.toArray.extract (if x<0 then (x+((its.toArray.size:Nat):Int)).toNat else min x.toNat its.toArray.size)=_
  rw [hk]
  apply Array.ext'
  simp
  exact List.take_of_length_le (by rw [List.length_drop]; exact Nat.le_refl _)
 ·rw [List.length_append,List.length_cons,List.length_take,List.length_drop]
  have:(1000:Nat)≤sizeLine:=by decide
  omega
theorem truth_bools {A:Around}{prog:Program}{w:World}{bs:List Bool}{its:List Value} (r:Vals (bs.map V.bl) its):TruthOf prog w A (fun i v=>its.toArray[i]?=some v) (fun i=>bs.getD i false):=by
 intro i v s Q E hv hq
 have hv':its[i]?=some v:=by simpa using hv
 have hl:i<bs.length:=by
  have h1:=(List.getElem?_eq_some_iff.mp hv').1
  have h2:=r.length
  rw [List.length_map] at h2
  omega
 obtain ⟨u,e,ru⟩:=Vals.get r (i:=i) (x:=.bl bs[i]) (by rw [List.getElem?_map,List.getElem?_eq_getElem hl]; rfl)
 rw [e] at hv'
 cases hv'
 have ru':v=Value.bool bs[i]:=ru
 subst ru'
 have eq:bs.getD i false=bs[i]:=by simp [List.getD,hl]
 have hq':Q (bs.getD i false) s:=hq
 rw [eq] at hq'
 exact wpAny_truthy_bool hq'
theorem range_all (bs:List Bool):(List.range bs.length).all (fun i=>bs.getD i false)=bs.all id:=by
 induction bs with
 | nil=>rfl
 | cons b r ih =>
  rw [List.length_cons,List.range_succ_eq_map,List.all_cons,List.all_map,List.all_cons]
  show (b&&(List.range r.length).all ((fun i=>(b::r).getD i false)∘Nat.succ))=(b&&r.all id)
  rw [← ih]
  rfl
theorem range_any (bs:List Bool):(List.range bs.length).any (fun i=>bs.getD i false)=bs.any id:=by
 induction bs with
 | nil=>rfl
 | cons b r ih =>
  rw [List.length_cons,List.range_succ_eq_map,List.any_cons,List.any_map,List.any_cons]
  show (b||(List.range r.length).any ((fun i=>(b::r).getD i false)∘Nat.succ))=(b||r.any id)
  rw [← ih]
  rfl
theorem call_allL (hc:X.calm=true):CallR X (.builtin "all") (fun vs H Q=>∃ (p:Addr) (bs:List Bool),vs=[.ref p]∧SqL X.K H p (bs.map V.bl)∧Q (.bl (bs.all id)) H):=by
 intro pins s σ H xs us Q I r h
 obtain ⟨p,bs,rfl,hq,q⟩:=h
 obtain ⟨u,rfl,ru⟩:=vals1 r
 cases ru
 obtain ⟨its,rv,pl,hz⟩:=I.list hq
 have hlt:p<s.heap.objs.size:=by obtain ⟨_,e,_⟩:=pl.isList; exact Heap.lt_size e
 have hlen:=rv.length
 rw [List.length_map] at hlen
 refine call_all_walk (wpAny_pyIter_list pl.isList ?_)
 refine ⟨s.heap.objs.size,_,[s.heap.objs.size],_,_,_,_,rfl,Walks.list (A:=X.A.in1) (show X.A.in1.handled=none from I.ok.hd hc) s.heap.objs.size p (Nat.ne_of_lt hlt) its.toArray,⟨⟨_,Heap.get?_push_size _ rfl,rfl,rfl⟩,pl.isList.push _⟩,truth_bools rv,fun h' tk kk=>?_⟩
 have e:(List.range its.toArray.size).all (fun i=>bs.getD i false)=bs.all id:=by rw [List.size_toArray,← hlen]; exact range_all bs
 rw [e]
 refine ⟨.bl (bs.all id),H,?_,rfl,q⟩
 exact I.kept (t':=tk) fun b o eb=>kk b o (by simp only [List.mem_singleton]; exact Nat.ne_of_lt (Heap.lt_size eb)) (Heap.get?_push_of_some _ eb)
theorem call_anyL (hc:X.calm=true):CallR X (.builtin "any") (fun vs H Q=>∃ (p:Addr) (bs:List Bool),vs=[.ref p]∧SqL X.K H p (bs.map V.bl)∧Q (.bl (bs.any id)) H):=by
 intro pins s σ H xs us Q I r h
 obtain ⟨p,bs,rfl,hq,q⟩:=h
 obtain ⟨u,rfl,ru⟩:=vals1 r
 cases ru
 obtain ⟨its,rv,pl,hz⟩:=I.list hq
 have hlt:p<s.heap.objs.size:=by obtain ⟨_,e,_⟩:=pl.isList; exact Heap.lt_size e
 have hlen:=rv.length
 rw [List.length_map] at hlen
 refine call_any_walk (wpAny_pyIter_list pl.isList ?_)
 refine ⟨s.heap.objs.size,_,[s.heap.objs.size],_,_,_,_,rfl,Walks.list (A:=X.A.in1) (show X.A.in1.handled=none from I.ok.hd hc) s.heap.objs.size p (Nat.ne_of_lt hlt) its.toArray,⟨⟨_,Heap.get?_push_size _ rfl,rfl,rfl⟩,pl.isList.push _⟩,truth_bools rv,fun h' tk kk=>?_⟩
 have e:(List.range its.toArray.size).any (fun i=>bs.getD i false)=bs.any id:=by rw [List.size_toArray,← hlen]; exact range_any bs
 rw [e]
 refine ⟨.bl (bs.any id),H,?_,rfl,q⟩
 exact I.kept (t':=tk) fun b o eb=>kk b o (by simp only [List.mem_singleton]; exact Nat.ne_of_lt (Heap.lt_size eb)) (Heap.get?_push_of_some _ eb)
theorem op_is_bl:OpR X (compareOp .Is) (fun x y H Q=>∃ a b,x=.bl a∧y=.bl b∧Q (.bl (a == b)) H):=by
 intro pins s σ H x y v u Q I rx ry h
 obtain ⟨a,b,rfl,rfl,q⟩:=h
 cases rx
 cases ry
 exact is_bool ⟨.bl (a == b),H,I,rfl,q⟩
theorem op_isnot_bl:OpR X (compareOp .IsNot) (fun x y H Q=>∃ a b,x=.bl a∧y=.bl b∧Q (.bl (a != b)) H):=by
 intro pins s σ H x y v u Q I rx ry h
 obtain ⟨a,b,rfl,rfl,q⟩:=h
 cases rx
 cases ry
 exact isnot_bool ⟨.bl (a != b),H,I,rfl,q⟩
end
section
variable {X:Cx}
noncomputable def rCatT2 (K:W.Frag):R2:=fun x y H Q=>∃ a b xs ys,x=.ref a∧y=.ref b∧H a=some (.tup xs)∧H b=some (.tup ys)∧xs.length+ys.length≤sizeLine∧∀ p H1,Same H H1→H1 p=some (.tup (xs++ys))→Q (.ref p) H1
theorem op_catT2:OpR X (binaryOp .Add) (rCatT2 X.K):=by
 intro pins s σ H x y v u Q I rx ry h
 obtain ⟨a,b,xs,ys,rfl,rfl,ha,hb,hz,q⟩:=h
 by_cases hx:xs=[]
 ·subst hx
  cases rx
  cases ry
  obtain ⟨its,r1,p1,_⟩:=I.tuple (SqT.of ha)
  obtain ⟨its2,r2,p2,_⟩:=I.tuple (SqT.of hb)
  have e:its=[]:=(r1.nil_iff).mpr rfl
  subst e
  obtain ⟨⟨cls,dd,data,sl⟩,ho,hc,n,hd⟩:=id p1
  obtain ⟨⟨cls2,dd2,data2,sl2⟩,ho2,hc2,n2,hd2⟩:=id p2
  simp only at hc hd hc2 hd2
  subst hc hd hc2 hd2
  exact concat_meets ⟨_,ho,rfl⟩ ⟨_,ho2,rfl⟩ noFill_tuple_add seq_tuple_add PySem.F.slot_tuple_add PySem.F.entry_tuple_add (PySem.F.args_tuple_add_2 _ _)
   (tuple_addW0 a b ([]:List Value).toArray its2.toArray n n2 dd dd2 sl sl2 (by simp)) ⟨ho,ho2,⟨.ref b,H,I,rfl,q b H (Same.refl H) hb⟩⟩
 ·refine op_catT pins s σ H (.ref a) (.ref b) v u Q I rx ry ⟨a,b,xs,ys,rfl,rfl,SqT.of ha,SqT.of hb,hx,hz,fun e=>?_,fun _ p hp=>q p _ (same_new hp _) upd_same⟩
  subst e
  exact q a H (Same.refl H) (by rw [List.append_nil]; exact ha)
theorem cutV_whole (xs:List V) (lo hi:Option Int) (h:HT.sIx xs.length 0 lo=0∧HT.sIx xs.length xs.length hi=xs.length):cutV xs lo hi=xs:=by
 unfold cutV
 rw [h.1,h.2,List.drop_zero,Nat.sub_zero,List.take_length]
theorem getItem_tuple_whole {prog:Program}{w:World}{A:Around}{E:Value→Shared→Prop}{s:Shared}{t sl:Addr}{items:Array Value}{vl vu:Value}{lo hi:Option Int}{Q:Value→Shared→Prop} (ht:IsTup s.heap t items) (hs:s.heap.IsSliceOf sl vl vu .none) (pl:IsPart vl lo) (pu:IsPart vu hi)
  (hw:HT.sIx items.size 0 lo=0∧HT.sIx items.size items.size hi=items.size)
  (h:Q (.ref t) s):wpAny (model prog w) A (getItem (.ref t) (.ref sl)) Q E s:=by
 obtain ⟨os,hos,hcs,hds⟩:=id hs
 have hTs:s.TypeIs (.ref sl) "slice":=⟨os,hos,hcs⟩
 unfold getItem
 try with_reducible refine wpAny_holding ?_
 first | refine wpAny_bind (wpAny_pure ?_) | skip
 refine wpAny_bind (wpAny_sequenceKey ht.typeIs (by decide) ?_)
 refine wpAny_bind (wpAny_callSpecial?_slot (name:=Str.ofString "__getitem__") ht.typeIs PyProof.Rows.slot_tuple_getitem
  (wpAny_call_entry PyProof.Rows.slot_tuple_getitem ht.typeIs entry_tuple_getitem ?_ (args_tuple_getitem _ _)))
 show wpAny _ _ (Builtin.Tuple.tupleItemsOf (.ref t) >>= _) _ _ s
 refine wpAny_bind (tupleItemsOf_ ht ?_)
 refine wpAny_bind (wpAny_typeOf hTs ?_)
 rw [if_pos (by decide)]
 refine wpAny_bind (HT.sliceApplied_gen hs pl pu ?_)
 have hyes:(((HT.sIx items.size 0 lo:Nat):Int) == 0&&(1:Int) == 1&&(HT.sIx items.size items.size hi - HT.sIx items.size 0 lo) == items.size)=true:=by
  rw [hw.1,hw.2]
  simp
 show wpAny _ _ (if (((HT.sIx items.size 0 lo:Nat):Int) == 0&&(1:Int) == 1&&(HT.sIx items.size items.size hi - HT.sIx items.size 0 lo) == items.size)=true then _ else _) _ _ s
 rw [if_pos hyes]
 have hEx:Builtin.Tuple.tupleIsExact (Value.ref t)=(typeOf (Value.ref t) >>= fun c=>pure (c == .type "tuple")):=rfl
 rw [hEx]
 refine wpAny_bind (wpAny_bind (wpAny_typeOf ht.typeIs (wpAny_pure ?_)))
 rw [if_pos (by decide)]
 exact wpAny_bind (wpAny_rule (wpAny_pure ⟨_,rfl,wpAny_pure h⟩))
noncomputable def rSlT2 (K:W.Frag):V→Option Int→Option Int→Hp→VK→Prop:=fun x lo hi H Q=>∃ a xs,x=.ref a∧H a=some (.tup xs)∧∀ p H1,Same H H1→H1 p=some (.tup (cutV xs lo hi))→Q (.ref p) H1
theorem sl_tup2:SlR X (rSlT2 X.K):=by
 intro pins s σ H x v vl vu lo hi sl Q I rx hs pl pu h
 obtain ⟨a,xs,rfl,hx,q⟩:=h
 by_cases hw:HT.sIx xs.length 0 lo=0∧HT.sIx xs.length xs.length hi=xs.length
 ·cases rx
  obtain ⟨its,r,ht,hz⟩:=I.tuple (SqT.of hx)
  have hlen:its.toArray.size=xs.length:=by rw [List.size_toArray]; exact r.length.symm
  refine ⟨"tuple",_,PyProof.Rows.slot_tuple_getitem.lookup,ht.typeIs,?_⟩
  exact getItem_tuple_whole ht hs pl pu (by rw [hlen]; exact hw) ⟨.ref a,H,I,rfl,q a H (Same.refl H) (by rw [cutV_whole xs lo hi hw]; exact hx)⟩
 ·exact sl_tup pins s σ H (.ref a) v vl vu lo hi sl Q I rx hs pl pu ⟨a,xs,rfl,SqT.of hx,hw,fun p hp=>q p _ (same_new hp _) upd_same⟩
theorem tuple_mulW (l:Addr) (items:Array Value) (n:Nat) (dd:Option Addr) (sl:Array (Option Value)) (x:Int) (u:Tok) (h2:2≤x) (h3:x<1000) (hne:¬ items.isEmpty=true) (hsz:items.size*x.toNat≤sizeLine) :
  Meets (Builtin.«tuple.__mul__» ⟨[.ref l,.int x u],[]⟩) (fun _ R s=>s.heap.get? l=some { cls:=.type "tuple",dict:=dd,data:=.seq items n,slots:=sl }∧R (.ok (.ret (Value.ref s.heap.objs.size))) { s with heap:=s.heap.push { cls:=Value.type "tuple",data:=Data.seq ((List.replicate x.toNat items).foldl (·++·) #[]) },toks:=s.toks }) :=
 .of_wp fun prog w A R s h=>by
  obtain ⟨hp,g,d,tk,os⟩:=s; obtain ⟨hl,h⟩:=h
  have f1:=AutoSeq1.idx_int
  have f2:=AutoSeq1.sub_tuple_tuple
  wp_walk using wpAny_loadPart' hl
  have c1:(decide (x < -2 ^ 63)||decide (x≥2 ^ 63))=false:=by
   rw [Bool.or_eq_false_iff]
   exact ⟨decide_eq_false (by omega),decide_eq_false (by omega)⟩
  have c2:(items.isEmpty||x == 1)=false:=by
   rw [Bool.or_eq_false_iff]
   exact ⟨Bool.eq_false_iff.mpr hne,beq_eq_false_iff_ne.mpr (by omega)⟩
  have c3:(decide (x≤0)||items.isEmpty)=false:=by
   rw [Bool.or_eq_false_iff]
   exact ⟨decide_eq_false (by omega),Bool.eq_false_iff.mpr hne⟩
  have hm:((items.size:Nat):Int)*x=((items.size*x.toNat:Nat):Int):=by
   rw [Int.natCast_mul,Int.toNat_of_nonneg (by omega)]
  have hS:(sizeLine:Int)≤(2 ^ 63 - 1) / 8:=by decide
  have c4:¬ ((items.size:Nat):Int)*x>(2 ^ 63 - 1) / 8:=by rw [hm]; omega
  have c5:Builtin.Tuple.tupleTooMany (((items.size:Nat):Int)*x)=false:=by
   unfold Builtin.Tuple.tupleTooMany
   rw [hm]
   exact decide_eq_false (by omega)
  rw [c1,if_neg Bool.false_ne_true]
  wp_walk using wpAny_loadPart' hl
  try rw [c2,if_neg Bool.false_ne_true]
  wp_walk using wpAny_loadPart' hl
  try rw [c3,if_neg Bool.false_ne_true]
  wp_walk using wpAny_loadPart' hl
  try rw [if_neg c4]
  wp_walk using wpAny_loadPart' hl
  try rw [c5,if_neg Bool.false_ne_true]
  wp_walk using wpAny_loadPart' hl
  have hfit:(List.foldl (fun x1 x2=>x1++x2) #[] (List.replicate x.toNat items)).size≤sizeLine:=by
   have e:=foldl_rep items.toList x.toNat []
   rw [List.nil_append] at e
   have e2:List.foldl (fun x1 x2=>x1++x2) #[] (List.replicate x.toNat items)=(List.replicate x.toNat items.toList).flatten.toArray:=e
   rw [e2,List.size_toArray,len_rep,Array.length_toList,Nat.mul_comm]
   exact hsz
  refine wpAny_ite_false (decide_eq_false (Nat.not_lt.mpr hfit)) ?_
  wp_walk
  exact ⟨_,rfl,h⟩
theorem noFill_tuple_mul:fillsNumberSlot (.type "tuple") "mul"=pure false :=
 PySem.fillsNumberSlot_seq (id := "tuple.__mul__") (r:=some (.builtin "tuple.__rmul__")) F.slot_tuple_mul.lookup (by decide +kernel) F.slot_tuple_rmul.lookup (by decide +kernel)
theorem repeat_tuple:seqRepeat? (.type "tuple")=pure (some (.builtin "tuple.__mul__")):=by
 unfold seqRepeat?
 rw [PySem.seqSlot_of (T := "tuple") (name := "__mul__") (id := "tuple.__mul__") F.slot_tuple_mul.lookup (by decide +kernel),PySem.seqSlot_of (T := "tuple") (name := "__rmul__") (id := "tuple.__rmul__") F.slot_tuple_rmul.lookup (by decide +kernel)]
 rfl
theorem int_rmul_tuple (a:Int) (t:Tok) (l:Addr) (items:Array Value) (n:Nat) (dd:Option Addr) (sl:Array (Option Value)) :
  Meets (Builtin.«int.__rmul__» ⟨[.int a t,.ref l],[]⟩) (fun _ R s=>s.heap.get? l=some { cls:=.type "tuple",dict:=dd,data:=.seq items n,slots:=sl }∧R (.ok (.ret Value.notImplemented)) s) :=
 .of_wp fun prog w A R s h=>by obtain ⟨hp,g,d,tk,os⟩:=s; obtain ⟨hl,h⟩:=h; wp_walk; exact ⟨_,rfl,h⟩
noncomputable def rRepT (K:W.Frag):R2:=fun x y H Q=>∃ a xs k,x=.ref a∧y=.int k∧SqT K H a xs∧xs≠[]∧2≤k∧k<1000∧xs.length*k.toNat≤sizeLine∧∀ p,H p=none→Q (.ref p) (upd H p (.tup (List.replicate k.toNat xs).flatten))
theorem op_repT:OpR X (binaryOp .Mult) (rRepT X.K):=by
 intro pins s σ H x y v u Q I rx ry h
 obtain ⟨a,xs,k,rfl,rfl,ha,hx,h2,h3,hz,q⟩:=h
 cases rx
 obtain ⟨t,rfl⟩:=ry
 obtain ⟨its,r,p1,_⟩:=I.tuple ha
 have hl:=r.length
 obtain ⟨⟨cls,dd,data,sl⟩,ho,hc,n,hd⟩:=id p1
 simp only at hc hd
 subst hc hd
 have hne:¬ its.toArray.isEmpty=true:=by
  intro e
  have:its=[]:=by simpa using e
  exact hx (r.nil_iff.mp this)
 refine wpAny_binaryOp_repeat_ref (T := "tuple") (U := "int") (by decide) ⟨_,ho,rfl⟩ (fun s'=>typeIs_int s' k t) noFill_tuple_mul F.fills_int_mul F.slot_int_rmul repeat_tuple F.slot_int_index.lookup
  (call_meets F.slot_int_rmul (typeIs_int s k t) F.entry_int_rmul (F.args_int_rmul_2 _ _) (int_rmul_tuple k t a its.toArray n dd sl)
   ⟨ho,rfl,⟨_,ho,rfl⟩,call_meets F.slot_tuple_mul ⟨_,ho,rfl⟩ F.entry_tuple_mul (F.args_tuple_mul_2 _ _) (tuple_mulW a its.toArray n dd sl k t h2 h3 hne (by rw [List.size_toArray,← hl]; exact hz)) ⟨ho,?_⟩⟩)
 have e:=foldl_rep its k.toNat []
 rw [List.nil_append] at e
 have e2:List.foldl (fun x1 x2=>x1++x2) #[] (List.replicate k.toNat its.toArray)=(List.replicate k.toNat its).flatten.toArray:=e
 rw [e2]
 refine ⟨.ref s.heap.objs.size,_,I.laid (t':=s.toks) (o:=.tup (List.replicate k.toNat xs).flatten) (fun b ob q=>Heap.get?_push_of_some _ q) (Nat.le_refl _) ?_,rfl,q _ (I.hok.fresh (Nat.le_refl _))⟩
 exact ⟨by rw [len_rep,Nat.mul_comm]; exact hz,_,r.rep k.toNat,IsTup.new _ _⟩
end
structure Callee (P:Program) (w:World) (K:W.Frag) (mg:Str→Option Value) (base:Heap) (x:Str) (ps:List Str) (k:Nat) (sp:Sp):Prop where
 ex:∃ f fd,FnOk P w K mg base CX0 k f fd ps sp∧Binds K fd ps []∧W.keepIn K (.ref f)=true∧mg x=some (.ref f)
section
variable {X:Cx}{a b c d:Expr}{ta tb tc td:TE}{pos:Pos}
theorem pe_callC {x:Str}{ps:List Str}{k k':Nat}{sp:Sp}{e:Expr}{es:List Expr}{t:TA}{p:Pos} (C:Callee X.prog X.w X.K X.mg X.base x ps k sp) (hr:Room k' X.A) (hg:Gl X x) (ha:PA X (e::es) t) (hk:k≤k':=by decide) (hdb:(x == ("__debug__":Str))=false:=by decide)
  (h1:starEach (e::es) X.env=(false,eval e X.env)::starEach es X.env:=by rfl) (h2:(backTo pos (starEach es X.env)).any (·.1)=false:=by rfl) :
  PE X (.Call (.Name x p) (e::es) [] pos) (tCall sp [] E0 t):=by
 obtain ⟨f,fd,F,hb,hkp,hm⟩:=C.ex
 exact pe_call (hdb:=hdb) (he:=h1) (hpl:=h2) F (hr.mono hk) hg hm hkp hb .nil pass0 ha
end
def Keep (a0:Addr) (H H':Hp):Prop:=∀ b o,H b=some o→H' b=some o∨(b=a0∧∃ xs ys,o=.lst xs∧H' b=some (.lst ys))
def TK (K:W.Frag) (H H':Hp):Prop:=∀ p xs,SqT K H p xs→SqT K H' p xs
theorem TK.refl (K:W.Frag) (H:Hp):TK K H H:=fun _ _ h=>h
theorem TK.trans {K:W.Frag}{H H1 H2:Hp} (a:TK K H H1) (b:TK K H1 H2):TK K H H2:=fun p xs h=>b p xs (a p xs h)
def StAt (H:Hp) (a:Addr):Prop:=∃ s b,H a=some (.lst [.int s,.bl b])∧(b=false→0≤s∧s<2147483647)
theorem dT {p:Prop} [Decidable p] (h:p):decide p=true:=decide_eq_true h
theorem bt_len:bootBuiltins "len"=some (.builtin "len"):=by decide +kernel
theorem bt_range:bootBuiltins "range"=some (.type "range"):=by decide +kernel
theorem bt_list:bootBuiltins "list"=some (.type "list"):=by decide +kernel
theorem bt_tuple:bootBuiltins "tuple"=some (.type "tuple"):=by decide +kernel
theorem bt_min:bootBuiltins "min"=some (.builtin "min"):=by decide +kernel
theorem bt_max:bootBuiltins "max"=some (.builtin "max"):=by decide +kernel
theorem bt_zip:bootBuiltins "zip"=some (.type "zip"):=by decide +kernel
theorem bt_isinstance:bootBuiltins "isinstance"=some (.builtin "isinstance"):=by decide +kernel
theorem bt_all:bootBuiltins "all"=some (.builtin "all"):=by decide +kernel
theorem bt_any:bootBuiltins "any"=some (.builtin "any"):=by decide +kernel
theorem bt_int:bootBuiltins "int"=some (.type "int"):=by decide +kernel
theorem bt_bool:bootBuiltins "bool"=some (.type "bool"):=by decide +kernel
theorem bt_enumerate:bootBuiltins "enumerate"=some (.type "enumerate"):=by decide +kernel
theorem bt_str:bootBuiltins "str"=some (.type "str"):=by decide +kernel
structure C4 where
 a:Int
 b:Int
 k:Int
 o:Int
noncomputable def C4.vs (c:C4):List V:=[.int c.a,.int c.b,.int c.k,.int c.o]
def C4.ok (sw pl:Int) (c:C4):Prop:=0≤c.a∧c.a<c.b∧c.b<pl∧0≤c.k∧c.k<sw∧0≤c.o∧c.o<2
def CtAt (K:W.Frag) (H:Hp) (v:V) (c:C4):Prop:=∃ p,v=.ref p∧SqT K H p c.vs
def CtsAt (K:W.Frag) (H:Hp) (xs:List V) (cs:List C4):Prop:=Paired (CtAt K H) xs cs
structure NetOk (ms mp mc:Int) (sw pl:Int) (cs:List C4):Prop where
 s1:1≤sw
 s2:sw≤ms
 p1:2≤pl
 p2:pl≤mp
 c1:(cs.length:Int)≤mc
 c2:∀ c∈cs,c.ok sw pl
structure RowsAt (K:W.Frag) (H0 H:Hp) (a l:Addr) (sw pl:Int) (xs:List V) (cs:List C4):Prop where
 kp:Keep a H0 H
 st:StAt H a
 at':H l=some (.lst xs)
 ct:CtsAt K H xs cs
 ok:∀ c∈cs,c.ok sw pl
inductive Ty2 (K:W.Frag) (H:Hp):V→String→Prop where
 | non:Ty2 K H .non "NoneType"
 | bl (x:Bool):Ty2 K H (.bl x) "bool"
 | int (i:Int):Ty2 K H (.int i) "int"
 | str (x:Str):Ty2 K H (.str x) "str"
 | tup {a:Addr}{xs:List V} (e:SqT K H a xs):Ty2 K H (.ref a) "tuple"
 | lst {a:Addr}{xs:List V} (e:SqL K H a xs):Ty2 K H (.ref a) "list"
 | dk {a:Addr}{kvs:List (Key × V)} (e:H a=some (.dK kvs)):Ty2 K H (.ref a) "dict"
noncomputable def kOf (t T:String):Bool:=t == T||(t == "bool"&&T == "int")
section
variable {X:Cx}
theorem isinst2_ok {A:Around}{E:Value→Shared→Prop}{pins:List (Addr × Obj)}{σ:St}{H:Hp}{s:Shared}{Q:Value→Shared→Prop}{c:Value}{b:Bool}{x:V}{u:Value}{t:String} (I:Inv X pins σ H s) (rx:RelV x u) (ty:Ty2 X.K H x t) (e:W.kitOne X.K (.type t) c=some b) (h:∀ tk,Q (.bool b) { s with toks:=tk }) :
  wpAny (model X.prog X.w) A (call (.builtin "isinstance") [u,c]) Q E s:=by
 cases ty with
 | non=>cases (show u=Value.none from rx); exact W.kia_one W.kitx_none I.kIn True.intro e (fun z=>nomatch z) h
 | bl y=>cases (show u=Value.bool y from rx); exact W.kia_one W.kitx_bool I.kIn True.intro e (fun z=>nomatch z) h
 | int i=>obtain ⟨t,q⟩:=(show ∃ t,u=Value.int i t from rx); cases q; exact W.kia_one W.kitx_int I.kIn True.intro e (fun z=>nomatch z) h
 | str y=>obtain ⟨t,q⟩:=(show ∃ t,u=Value.str y t from rx); cases q; exact W.kia_one W.kitx_str I.kIn True.intro e (fun z=>nomatch z) h
 | @lst a xs ea =>
  cases (show u=Value.ref a from rx)
  obtain ⟨its,_,pl,_⟩:=I.list ea
  obtain ⟨o,h1,h2,_⟩:=pl.isList
  exact W.kia_one W.kitx_list I.kIn ⟨o,h1,h2⟩ e (fun z=>nomatch z) h
 | @tup a xs ea =>
  cases (show u=Value.ref a from rx)
  obtain ⟨its,_,pl,_⟩:=I.tuple ea
  obtain ⟨o,h1,h2,_⟩:=pl
  exact W.kia_one W.kitx_tuple I.kIn ⟨o,h1,h2⟩ e (fun z=>nomatch z) h
 | @dk a kvs ea =>
  cases (show u=Value.ref a from rx)
  obtain ⟨_,_,vs,_,p⟩:=(show ObjOk X.prog X.w H s.heap a (.dK kvs) from I.hok a _ ea)
  obtain ⟨o,es,ep,h1,h2,_⟩:=p
  exact W.kia_one W.kitx_dict I.kIn ⟨o,h1,h2.1⟩ e (fun z=>nomatch z) h
theorem call_isinst2:CallR X (.builtin "isinstance") (fun vs H Q=>∃ x t T b,vs=[x,.ty T]∧Ty2 X.K H x t∧W.kitOne X.K (.type t) (.type T)=some b∧Q (.bl b) H):=by
 intro pins s σ H xs us Q I r h
 obtain ⟨x,t,T,b,rfl,ty,e,q⟩:=h
 obtain ⟨u,v,rfl,ru,rv⟩:=vals2 r
 cases rv
 exact isinst2_ok I ru ty e fun tk=>⟨.bl b,H,I.tok tk,rfl,q⟩
end
theorem kit_all2 (K:W.Frag):(∀ t∈["NoneType","bool","int","str","tuple","list","dict"],∀ T∈["bool","int","tuple","list","str","dict"],W.kitOne K (.type t) (.type T)=some (kOf t T)):=by
 intro t ht T hT
 simp only [List.mem_cons,List.not_mem_nil,or_false] at ht hT
 rcases ht with rfl | rfl | rfl | rfl | rfl | rfl | rfl <;> rcases hT with rfl | rfl | rfl | rfl | rfl | rfl <;> rfl
mutual
inductive Rp (K:W.Frag) (H:Hp) (a0:Addr→Prop):V→PyData→Prop where
 | non:Rp K H a0 .non .none
 | bl (b:Bool):Rp K H a0 (.bl b) (.bool b)
 | int (i:Int):Rp K H a0 (.int i) (.int i)
 | str (x:Str):Rp K H a0 (.str x) (.str x)
 | tup {p:Addr}{xs:List V}{ds:List PyData} (h:SqT K H p xs) (r:RpL K H a0 xs ds):Rp K H a0 (.ref p) (.tuple ds)
 | lst {p:Addr}{xs:List V}{ds:List PyData} (n:a0 p) (h:SqL K H p xs) (r:RpL K H a0 xs ds):Rp K H a0 (.ref p) (.list ds)
inductive RpL (K:W.Frag) (H:Hp) (a0:Addr→Prop):List V→List PyData→Prop where
 | nil:RpL K H a0 [] []
 | cons {x:V}{xs:List V}{d:PyData}{ds:List PyData} (h:Rp K H a0 x d) (t:RpL K H a0 xs ds):RpL K H a0 (x::xs) (d::ds)
end
noncomputable def C4.d (c:C4):PyData:=.tuple [.int c.a,.int c.b,.int c.k,.int c.o]
open PySem PySem.Spec PyProof.Rows
section
variable {prog:Program}{w:World}{A:Around}{E:Value→Shared→Prop}{s:Shared}
theorem tupNext_item {j t:Addr}{n:Nat}{vs:Array Value}{v:Value}{Q:Value→Shared→Prop} (hj:s.heap.IsTupleIter j t n) (ht:s.heap.IsTuple t vs) (hv:vs[n]?=some v)
  (q:∀ h',h'.IsTupleIter j t (n+1)→Heap.SameBut j s.heap h'→Q v { s with heap:=h' }):wpAny (model prog w) A (Builtin.SmallTypes.nextOf (.ref j)) Q E s:=by
 obtain ⟨oj,e1,c1,d1⟩:=id hj
 obtain ⟨ot,e2,_,m,d2⟩:=ht
 unfold Builtin.SmallTypes.nextOf
 refine wpAny_bind (wpAny_callSpecial?_slot (name:=Str.ofString "__next__") hj.typeIs F.slot_tuple_iterator_next (wpAny_call_entry F.slot_tuple_iterator_next hj.typeIs F.entry_tuple_iterator_next ?_ (F.args_tuple_iterator_next_1 _)))
 show wpAny _ _ (field (.ref j) 0 >>= _) _ _ s
 refine wpAny_bind (wpAny_field e1 d1 (x:=.ref t) rfl ?_)
 show wpAny _ _ (if (Value.ref t == Value.none)=true then _ else _) _ _ s
 rw [if_neg (show ¬ ((Value.ref t == Value.none)=true) from fun z=>Bool.false_ne_true z)]
 show wpAny _ _ (field (.ref j) 1 >>= _) _ _ s
 refine wpAny_bind (wpAny_field e1 d1 (x:=.int n 0) rfl ?_)
 show wpAny _ _ (seqItems? (.ref t) >>= _) _ _ s
 refine wpAny_bind (wpAny_seqItems e2 d2 ?_)
 simp only [hv,Int.toNat_natCast]
 refine wpAny_bind (wpAny_setField e1 d1 (by simp) (wpAny_pure ⟨v,rfl,wpAny_pure (q _ ?_ (Heap.SameBut.update ..))⟩))
 refine ⟨_,Heap.get?_update_self _ e1 (Obj.isFreed_of_fields (Obj.data_mapFields d1 _)),(Obj.cls_mapFields ..).trans c1,?_⟩
 rw [Obj.data_mapFields d1]
 simp [rawInt]
theorem tupNext_end {j t:Addr}{n:Nat}{vs:Array Value}{Q:Value→Shared→Prop} (hh:A.handled=none) (hj:s.heap.IsTupleIter j t n) (ht:s.heap.IsTuple t vs) (hv:vs[n]?=none)
  (q:∀ h' e,Heap.ExtBut j s.heap h'→(∃ o,h'.get? e=some o∧o.cls=.type "StopIteration")→E (.ref e) { s with heap:=h' }):wpAny (model prog w) A (Builtin.SmallTypes.nextOf (.ref j)) Q E s:=by
 obtain ⟨oj,e1,c1,d1⟩:=id hj
 obtain ⟨ot,e2,_,m,d2⟩:=ht
 unfold Builtin.SmallTypes.nextOf
 refine wpAny_bind (wpAny_callSpecial?_slot (name:=Str.ofString "__next__") hj.typeIs F.slot_tuple_iterator_next (wpAny_call_entry F.slot_tuple_iterator_next hj.typeIs F.entry_tuple_iterator_next ?_ (F.args_tuple_iterator_next_1 _)))
 show wpAny _ _ (field (.ref j) 0 >>= _) _ _ s
 refine wpAny_bind (wpAny_field e1 d1 (x:=.ref t) rfl ?_)
 show wpAny _ _ (if (Value.ref t == Value.none)=true then _ else _) _ _ s
 rw [if_neg (show ¬ ((Value.ref t == Value.none)=true) from fun z=>Bool.false_ne_true z)]
 show wpAny _ _ (field (.ref j) 1 >>= _) _ _ s
 refine wpAny_bind (wpAny_field e1 d1 (x:=.int n 0) rfl ?_)
 show wpAny _ _ (seqItems? (.ref t) >>= _) _ _ s
 refine wpAny_bind (wpAny_seqItems e2 d2 ?_)
 simp only [hv,Int.toNat_natCast]
 refine wpAny_bind (wpAny_rule (wpAny_bind (wpAny_setField e1 d1 (by simp) ?_)))
 refine wpAny_bind (m:=newExc (.type "StopIteration") []) ?_
 simp only [newTuple,newExc]
 refine wpAny_bind (wpAny_newObj_type ?_ (by size_fits))
 refine wpAny_bind (m:=firstArgMember _ _) (wpAny_of_eq (a:=Value.none) (by first | (simp only [firstArgMember]; rfl) | rfl) ?_)
 refine wpAny_newObj_type ?_ (by size_fits)
 simp only [raiseNew]
 refine wpAny_bind (wpAny_handled ?_)
 first | rw [hh] | rw [show A.in1.handled=none from hh]
 refine wpAny_bind (wpAny_pure (wpAny_throw ?_))
 exact q _ _ (((Heap.SameBut.update ..).extBut.push _).push _) ⟨_,Heap.get?_push_size _ rfl,rfl⟩
end
theorem drawsTuple {prog:Program}{w:World}{A:Around} (hh:A.handled=none) (j t:Addr) (hne:t≠j) (vs:Array Value) :
  Draws prog w A j [j,t] vs.size (fun i v=>vs[i]?=some v) (fun i h=>h.IsTupleIter j t i∧h.IsTuple t vs) where
 live:=fun _ _ st=>let ⟨o,ho,_⟩:=st.1; ⟨o,ho⟩
 frame:=fun _ _ _ st kk=>⟨st.1.at fun o e=>kk j (by simp) o e,let ⟨o,ho,r⟩:=st.2; ⟨o,kk t (by simp) o ho,r⟩⟩
 item:=fun i s Q E hi st hQ=>tupNext_item st.1 st.2 (v:=vs[i]) (by simp [hi]) fun h' h1 h2=>hQ _ h' s.toks (by simp [hi]) ⟨h1,st.2.extBut h2.extBut hne⟩ h2
 done:=fun s Q E st hE=>tupNext_end hh st.1 st.2 (by simp) hE
theorem enumNewT (l:Addr) (items:Array Value) (n:Nat) (dct:Option Addr) (sl:Array (Option Value)) :
  Meets (Builtin.«enumerate.__new__» ⟨[.type "enumerate",.ref l],[]⟩) (fun _ R s=>s.heap.get? l=some { cls:=.type "tuple",dict:=dct,data:=.seq items n,slots:=sl } ∧
   R (.ok (.ret (.ref (s.heap.push { cls:=.type "tuple_iterator",data:=.fields #[.ref l,.int 0 0] }).objs.size)))
    { s with heap:=(s.heap.push { cls:=.type "tuple_iterator",data:=.fields #[.ref l,.int 0 0] }).push { cls:=.type "enumerate",data:=.fields #[.none,.bool false,.ref s.heap.objs.size,rawInt 0,.none,.none] } }) :=
 .of_wp fun prog w A R s h=>by
  obtain ⟨hp,g,d,tk,os⟩:=s; obtain ⟨hl,h⟩:=h
  have hsub:=sub_enumerate
  have hT:Heap.IsTuple (Shared.heap ⟨hp,g,d,tk,os⟩) l items:=⟨_,hl,rfl,n,rfl⟩
  wp_walk using AutoSeq1.wpAny_loadPart' hl
  refine wpAny_stack_any fun st=>wpAny_pure ?_
  split
  ·rename_i c _ _ _ _ _
   cases (c == Value.type "enumerate") <;> (wp_walk using AutoSeq1.wpAny_loadPart' hl,wpAny_pyIter_tuple hT; exact ⟨_,rfl,h⟩)
  ·wp_walk using AutoSeq1.wpAny_loadPart' hl,wpAny_pyIter_tuple hT
   exact ⟨_,rfl,h⟩
open PySem PySem.Spec PyProof.Rows
section
variable {X:Cx}{pins:List (Addr × Obj)}{σ:St}{H:Hp}{s:Shared}
mutual
theorem Inv.reads (I:Inv X pins σ H s) {a0:Addr→Prop}:∀ {x:V}{d:PyData}{u:Value},Rp X.K H a0 x d→RelV x u→∃ as,Reads s.heap u d as
 | _,_,u,.non,r=>by cases (show u=Value.none from r); exact ⟨_,.none⟩
 | _,_,u,.bl b,r=>by cases (show u=Value.bool b from r); exact ⟨_,.bool b⟩
 | _,_,u,.int i,r=>by obtain ⟨t,q⟩:=(show ∃ t,u=Value.int i t from r); cases q; exact ⟨_,.int i t⟩
 | _,_,u,.str y,r=>by obtain ⟨t,q⟩:=(show ∃ t,u=Value.str y t from r); cases q; exact ⟨_,.str y t⟩
 | _,_,u,.tup (p:=p) h rr,r=>by
  cases (show u=Value.ref p from r)
  obtain ⟨its,rv,⟨o,h1,h2,n,h3⟩,_⟩:=I.tuple h
  obtain ⟨as,ra⟩:=I.readsL rr rv
  exact ⟨_,.tuple h1 h2 h3 (by simpa using ra)⟩
 | _,_,u,.lst (p:=p) _ h rr,r=>by
  cases (show u=Value.ref p from r)
  obtain ⟨its,rv,pl,_⟩:=I.list h
  obtain ⟨o,h1,h2,n,h3⟩:=pl.isList
  obtain ⟨as,ra⟩:=I.readsL rr rv
  exact ⟨_,.list h1 h2 h3 (by simpa using ra)⟩
theorem Inv.readsL (I:Inv X pins σ H s) {a0:Addr→Prop}:∀ {xs:List V}{ds:List PyData}{us:List Value},RpL X.K H a0 xs ds→Vals xs us→∃ as,ReadsAll s.heap us ds as
 | _,_,_,.nil,.nil=>⟨_,.nil⟩
 | _,_,_,.cons h t,.cons r rr=>by
  obtain ⟨a1,q1⟩:=I.reads h r
  obtain ⟨a2,q2⟩:=I.readsL t rr
  exact ⟨_,.cons q1 q2⟩
end
def okD (d:PyData):Prop:=d.canLay0=true∧d.depth≤60
theorem op_eqD (hu:X.A.units+64<cLine):OpR X (compareOp .Eq) (fun x y H Q=>∃ (N N':Addr→Prop) (da db:PyData),Rp X.K H N x da∧Rp X.K H N' y db∧okD da∧okD db∧Q (.bl (PyData.eqv da db)) H):=by
 intro pins s σ H x y v u Q I rx ry h
 obtain ⟨N,N',da,db,hx,hy,o1,o2,q⟩:=h
 obtain ⟨as,ra⟩:=I.reads hx rx
 obtain ⟨bs,rb⟩:=I.reads hy ry
 exact SeqAt.compareEq_reads ra rb o1.1 o2.1 (by have:=o1.2; omega) ⟨.bl _,H,I,rfl,q⟩
theorem op_neD (hu:X.A.units+64<cLine):OpR X (compareOp .NotEq) (fun x y H Q=>∃ (N N':Addr→Prop) (da db:PyData),Rp X.K H N x da∧Rp X.K H N' y db∧okD da∧okD db∧Q (.bl (!PyData.eqv da db)) H):=by
 intro pins s σ H x y v u Q I rx ry h
 obtain ⟨N,N',da,db,hx,hy,o1,o2,q⟩:=h
 obtain ⟨as,ra⟩:=I.reads hx rx
 obtain ⟨bs,rb⟩:=I.reads hy ry
 exact SeqAt.compareNe_reads ra rb o1.1 o2.1 (by have:=o1.2; omega) ⟨.bl _,H,I,rfl,q⟩
end
open PySem PySem.Spec PyProof.Rows
def SqX (b:Bool) (K:W.Frag) (H:Hp) (a:Addr) (xs:List V):Prop:=match b with
 | true=>SqT K H a xs
 | false=>SqL K H a xs
def IsX (b:Bool) (h:Heap) (a:Addr) (vs:Array Value):Prop:=match b with
 | true=>h.IsTuple a vs
 | false=>h.IsList a vs
def ItX (b:Bool) (h:Heap) (j a:Addr) (i:Nat):Prop:=match b with
 | true=>h.IsTupleIter j a i
 | false=>h.IsListIter j a i
theorem ItX.obj {b:Bool}{h:Heap}{j a:Addr}{i:Nat} (x:ItX b h j a i):∃ o,h.get? j=some o∧∀ v,o.data≠.cell v:=by
 cases b with
 | true=>obtain ⟨o,h1,_,h2⟩:=(x:h.IsTupleIter j a i); exact ⟨o,h1,fun v q=>by rw [h2] at q; cases q⟩
 | false=>obtain ⟨o,h1,_,h2⟩:=(x:h.IsListIter j a i); exact ⟨o,h1,fun v q=>by rw [h2] at q; cases q⟩
theorem ItX.keep {b:Bool}{h h':Heap}{j a:Addr}{i:Nat} (x:ItX b h j a i) (e:∀ o,h.get? j=some o→h'.get? j=some o):ItX b h' j a i:=by
 cases b with
 | true=>exact Heap.IsTupleIter.at x e
 | false=>exact Heap.IsListIter.at x e
theorem IsX.lt {b:Bool}{h:Heap}{a:Addr}{vs:Array Value} (x:IsX b h a vs):a<h.objs.size:=by
 cases b with
 | true=>obtain ⟨_,e,_⟩:=(x:h.IsTuple a vs); exact Heap.lt_size e
 | false=>obtain ⟨_,e,_⟩:=(x:h.IsList a vs); exact Heap.lt_size e
theorem drawsX {prog:Program}{w:World}{A:Around} (b:Bool) (hh:A.handled=none) (j t:Addr) (hne:t≠j) (vs:Array Value) :
  Draws prog w A j [j,t] vs.size (fun i v=>vs[i]?=some v) (fun i h=>ItX b h j t i∧IsX b h t vs):=by
 cases b with
 | true=>exact drawsTuple hh j t hne vs
 | false=>exact Draws.list hh j t hne vs
section
variable {X:Cx}{pins:List (Addr × Obj)}{σ:St}{H:Hp}{s:Shared}
theorem Inv.sqX (I:Inv X pins σ H s) {b:Bool}{a:Addr}{xs:List V} (h:SqX b X.K H a xs):∃ its,Vals xs its∧IsX b s.heap a its.toArray:=by
 cases b with
 | true=>obtain ⟨its,r,p,_⟩:=I.tuple h; exact ⟨its,r,p⟩
 | false=>obtain ⟨its,r,p,_⟩:=I.list h; exact ⟨its,r,p.isList⟩
theorem Inv.sqX_inj (I:Inv X pins σ H s) {b:Bool}{a:Addr}{xs ys:List V} (h:SqX b X.K H a xs) (h':SqX b X.K H a ys):xs=ys:=by
 cases b with
 | true=>exact I.tuple_inj h h'
 | false=>exact I.list_inj h h'
end
noncomputable def IteX (b:Bool) (K:W.Frag) (a:Addr):It :=
  ⟨fun i H=>∃ xs x,SqX b K H a xs∧xs[i]?=some x,
   fun i H v H'=>∃ T,H T=none∧v=.ref T∧∀ xs x,SqX b K H a xs→xs[i]?=some x→H'=upd H T (.tup [.int i,x]),
   fun i H=>∃ xs,SqX b K H a xs∧i=xs.length⟩
theorem allN {P:Addr→Prop}:∀ x∈([]:List Addr),P x:=fun _ h=>by cases h
theorem allC {P:Addr→Prop}{a:Addr}{l:List Addr} (h:P a) (t:∀ x∈l,P x):∀ x∈a::l,P x:=fun x hx=>(List.mem_cons.mp hx).elim (fun e=>e▸h) (t x)
theorem fp_upd {X:Cx}{pins:List (Addr × Obj)}{H:Hp}{T:Addr}{o:HO}{ws:List Addr} (h:∀ b∈ws,FpOk X pins H b) (n:∀ b∈ws,b≠T):∀ b∈ws,FpOk X pins (upd H T o) b:=fun b hb=>⟨by rw [upd_ne (n b hb)]; exact (h b hb).1,(h b hb).2⟩
structure EsX (b:Bool) (e it a:Addr) (i:Nat) (h:Heap):Prop where
 a1:∃ old,IsEnum h e it (i:Nat) old
 a2:ItX b h it a i
theorem EsX.obj {b:Bool}{e it a:Addr}{i:Nat}{h:Heap} (st:EsX b e it a i h):∀ c∈[e,it],∃ o,h.get? c=some o∧∀ v,o.data≠.cell v:=by
 obtain ⟨_,a1⟩:=st.a1
 exact allC ⟨_,a1,fun v q=>by cases q⟩ (allC st.a2.obj allN)
theorem EsX.ne {b:Bool}{e it a:Addr}{i:Nat}{h:Heap} (st:EsX b e it a i h) {T:Addr} (hT:h.objs.size≤T):∀ c∈[e,it],c≠T:=fun c hc=>by
 obtain ⟨o,z,_⟩:=st.obj c hc
 exact Nat.ne_of_lt (Nat.lt_of_lt_of_le (Heap.lt_size z) hT)
theorem zyE {b:Bool}{a:Addr}{i:Nat}{X:Cx}{pins:List (Addr × Obj)}{σ:St}{H:Hp}{s:Shared} (I:Inv X pins σ H s) {xs:List V}{x:V} (q1:SqX b X.K H a xs) (ex:xs[i]?=some x) {T:Addr} (xs':List V) (x':V) (s1:SqX b X.K H a xs') (t1:xs'[i]?=some x'):upd H T (.tup [.int i,x])=upd H T (.tup [.int i,x']):=by
 have h1:=I.sqX_inj q1 s1
 subst h1
 rw [ex] at t1
 cases t1; rfl
theorem zvE {t1:List Value}{u1:Value}{i:Nat}{vals:Array Value} (e1:t1[i]?=some u1) (hv:∃ tt v,t1.toArray[i]?=some v∧vals=#[.int (i:Nat) tt,v]):∃ tt,vals=#[.int (i:Nat) tt,u1]:=by
 obtain ⟨tt,v,g,rfl⟩:=hv
 rw [List.getElem?_toArray,e1] at g
 cases g; exact ⟨tt,rfl⟩
theorem turn_enumX {P:Program}{w:World}{K:PySem.W.Frag}{elts:List Expr}{k:Nat}{pos:Pos} (b:Bool) (e it a:Addr) (hei:e≠it) (hea:e≠a) (hai:a≠it) :
  Turn P w K (.Tuple elts k pos) (IteX b K a) [e,it] e (EsX b e it a) where
 mem:=by simp
 obj:=fun i h st=>st.obj
 keep:=fun i h h' ⟨⟨old,h1⟩,h2⟩ kk=>⟨⟨old,kk e (by simp) _ h1⟩,h2.keep fun o z=>kk it (by simp) o z⟩
 item:=by
  intro X hP hw hK hc i pins s σ H E I hf st hg
  subst hP hw hK
  obtain ⟨xs,x,q1,ex⟩:=hg
  obtain ⟨its1,r1,p1⟩:=I.sqX q1
  obtain ⟨u1,e1,ru1⟩:=r1.get ex
  have D:=drawsX (prog:=X.prog) (w:=X.w) (A:=X.A.in1) b (show X.A.in1.handled=none from I.ok.hd hc) it a hai its1.toArray
  have W:=WalksT.enumerateD (A:=X.A) D e hei (by simp [hei,hea]) (by simp)
  have hl1:i<its1.length:=(List.getElem?_eq_some_iff.mp e1).1
  refine W.item i s _ _ (by simp only [List.size_toArray]; omega) ⟨st.1,st.2,p1⟩ fun T vals h' tk hv hT hIs hM kk=>?_
  obtain ⟨tt,hvv⟩:=zvE e1 hv
  subst hvv
  have nT:=st.ne hT
  refine ⟨_,rfl,W.go _ _ _ i T { s with heap:=h',toks:=tk } _ _ hM fun h2 st2 kk2=>?_⟩
  have I1:Inv X pins σ (upd H T (.tup [.int i,x])) { s with heap:=h',toks:=tk }:=I.yields (its:=[.int i tt,u1]) hf kk hT (.cons ⟨tt,rfl⟩ (.cons ru1 .nil)) (by show 2≤sizeLine; decide) hIs
  exact ⟨.ref T,_,I1.turnedL (tk:=tk) (fp_upd hf nT) kk2,rfl,⟨T,I.hok.fresh hT,rfl,zyE I q1 ex⟩,⟨st2.1,st2.2.1⟩,fun c hc=>by rw [upd_ne (nT c hc)]; exact (hf c hc).1⟩
 done:=by
  intro X hP hw hK hc i pins s σ H E I hf st hg
  subst hP hw hK
  obtain ⟨xs,q1,ei⟩:=hg
  obtain ⟨its1,r1,p1⟩:=I.sqX q1
  have D:=drawsX (prog:=X.prog) (w:=X.w) (A:=X.A.in1) b (show X.A.in1.handled=none from I.ok.hd hc) it a hai its1.toArray
  have W:=WalksT.enumerateD (A:=X.A) D e hei (by simp [hei,hea]) (by simp)
  have en:i=its1.toArray.size:=by rw [List.size_toArray,← r1.length]; exact ei
  refine W.done s _ _ (by rw [← en]; exact ⟨st.1,st.2,p1⟩) fun h' tk kk=>?_
  exact ⟨rfl,I.turnedL hf kk⟩
 self:=fun _ _ _ _ _ st h=>let ⟨⟨_,z⟩,_⟩:=st; wpAny_pyIter_enum z h
section
variable {X:Cx}
noncomputable def iEnumL (K:W.Frag) (ta:TA):TI:=fun σ H R=>ta σ H fun vs H1=>∃ a,vs=[.ref a]∧((∃ xs,SqT K H1 a xs)∧R (IteX true K a) H1∨(∃ xs,SqL K H1 a xs)∧R (IteX false K a) H1)
theorem pi_enumL {elts:List Expr}{k:Nat}{tpos:Pos}{a:Expr}{ta:TA}{p pos:Pos} (hg:Gl X "enumerate") (hm:X.mg "enumerate"=none) (ha:PA X [a] ta) (hs:starEach [a] X.env=[(false,eval a X.env)]:=by rfl) :
  PI X (.Tuple elts k tpos) (.Call (.Name "enumerate" p) [a] [] pos) (iEnumL X.K ta):=by
 intro pins s σ H R I h
 refine Call_ (ld_blt I hg hm bt_enumerate (PyProof.Rows.callWith_type1 (thn (ha pos pins s σ H _ I h) fun us s1 ⟨vs,H1,I1,r1,q1⟩=>?_) (by rw [hs]; rfl) (by rfl)))
 obtain ⟨t,e,q⟩:=q1
 subst e
 rcases q with ⟨⟨xs,h1⟩,q⟩ | ⟨⟨xs,h1⟩,q⟩
 ·cases r1 with
  | cons r rr =>
   cases rr
   cases r
   obtain ⟨its1,v1,p1,z1⟩:=I1.tuple h1
   obtain ⟨⟨c,dct,dt,sl⟩,hl,hc,n,hd⟩:=id p1
   replace hc:c=.type "tuple":=hc
   replace hd:dt=.seq its1.toArray n:=hd
   subst hc hd
   have hlt:t<s1.heap.objs.size:=Heap.lt_size hl
   refine callType_new PySem.F.called_enumerate (by decide) (PySem.F.typeCall_enumerate_1 _) (PySem.F.newCall_enumerate_1 _) (fun obj=>PySem.F.args_object_init_2 obj _) PySem.F.entry_enumerate_new (enumNewT t its1.toArray n dct sl) ⟨hl,?_⟩
   have hz:(s1.heap.push { cls:=.type "tuple_iterator",data:=.fields #[.ref t,.int 0 0] }).objs.size=s1.heap.objs.size+1:=Heap.size_push ..
   show _∧_
   rw [hz]
   have he:IsEnum ((s1.heap.push { cls:=.type "tuple_iterator",data:=.fields #[.ref t,.int 0 0] }).push { cls:=.type "enumerate",data:=.fields #[.none,.bool false,.ref s1.heap.objs.size,rawInt 0,.none,.none] }) (s1.heap.objs.size+1) s1.heap.objs.size 0 .none:=by
    have z:=Heap.get?_push_size (s1.heap.push { cls:=.type "tuple_iterator",data:=.fields #[.ref t,.int 0 0] }) (o:={ cls:=.type "enumerate",data:=.fields #[.none,.bool false,.ref s1.heap.objs.size,rawInt 0,.none,.none] }) rfl
    rw [hz] at z
    exact z
   refine ⟨⟨_,he,rfl⟩,?_⟩
   refine wpAny_pyIter_enum he ?_
   have kp:∀ b o,s1.heap.get? b=some o→((s1.heap.push { cls:=.type "tuple_iterator",data:=.fields #[.ref t,.int 0 0] }).push { cls:=.type "enumerate",data:=.fields #[.none,.bool false,.ref s1.heap.objs.size,rawInt 0,.none,.none] }).get? b=some o:=fun b o x=>Heap.get?_push_of_some _ (Heap.get?_push_of_some _ x)
   refine ⟨_,_,_,_,H1,rfl,I1.kept (t':=s1.toks) kp,turn_enumX true (s1.heap.objs.size+1) s1.heap.objs.size t (Nat.succ_ne_self _) (Nat.ne_of_gt (Nat.lt_succ_of_lt hlt)) (Nat.ne_of_lt hlt),⟨⟨_,he⟩,⟨_,Heap.get?_push_of_some _ (Heap.get?_push_size _ rfl),rfl,rfl⟩⟩,fun b hb=>?_,q⟩
   have hle:s1.heap.objs.size≤b:=by
    simp only [List.mem_cons,List.not_mem_nil,or_false] at hb
    rcases hb with rfl | rfl
    ·exact Nat.le_succ _
    ·exact Nat.le_refl _
   exact I1.fpOk hle (I1.hok.fresh hle)
 ·cases r1 with
  | cons r rr =>
   cases rr
   cases r
   obtain ⟨its1,v1,p1,z1⟩:=I1.list h1
   have hlt:t<s1.heap.objs.size:=by obtain ⟨_,e,_⟩:=p1.isList; exact Heap.lt_size e
   refine call_enumerate_list p1.isList fun h' he hi hsz hk=>?_
   refine wpAny_pyIter_enum he ?_
   refine ⟨_,_,_,_,H1,rfl,I1.kept (t':=s1.toks) hk,turn_enumX false (s1.heap.objs.size+1) s1.heap.objs.size t (Nat.succ_ne_self _) (Nat.ne_of_gt (Nat.lt_succ_of_lt hlt)) (Nat.ne_of_lt hlt),⟨⟨_,he⟩,hi⟩,fun b hb=>?_,q⟩
   have hle:s1.heap.objs.size≤b:=by
    simp only [List.mem_cons,List.not_mem_nil,or_false] at hb
    rcases hb with rfl | rfl
    ·exact Nat.le_succ _
    ·exact Nat.le_refl _
   exact I1.fpOk hle (I1.hok.fresh hle)
end
open PySem PySem.Spec PyProof.Rows
structure ZAp (z TI TO i1 i2:Addr) (f1 f2:List Addr):Prop where
 TIz:TI≠z
 TOz:TO≠z
 i1z:i1≠z
 i2z:i2≠z
 TITO:TI≠TO
 TIi1:TI≠i1
 TIi2:TI≠i2
 TOi1:TO≠i1
 TOi2:TO≠i2
 i12:i1≠i2
 z1:z∉f1
 z2:z∉f2
 O1:TO∉f1
 O2:TO∉f2
 j1:i2∉f1
 j2:i1∉f2
section
variable {prog:Program}{w:World}{A:Around}{E:Value→Shared→Prop}{s:Shared}
variable {z TI TO i1 i2:Addr}{f1 f2:List Addr}{n1 n2 k:Nat}{P1 P2:Nat→Value→Prop}{S1 S2:Nat→Heap→Prop}
theorem Draws.sb {j c:Addr}{fp:List Addr}{n i:Nat}{P:Nat→Value→Prop}{St:Nat→Heap→Prop}{h h':Heap} (D:Draws prog w A j fp n P St) (st:St i h) (sb:Heap.SameBut c h h') (hc:c∉fp):St i h' :=
 D.frame _ _ _ st fun b hb o e=>sb.extBut b o (fun q=>hc (q▸hb)) e
theorem zip_open {Q:Fin→Shared→Prop}{a b:Value} (hz:IsZip s.heap z TI TO .none) (hTI:IsPair s.heap TI (.ref i1) (.ref i2)) (hTO:IsPair s.heap TO a b) (hh:A.handled=none)
  (D1:∀ A:Around,A.handled=none→Draws prog w A i1 f1 n1 P1 S1) (D2:∀ A:Around,A.handled=none→Draws prog w A i2 f2 n2 P2 S2) (ap:ZAp z TI TO i1 i2 f1 f2) (h1:S1 k s.heap) (h2:S2 k s.heap)
  (hQ:k<n1→k<n2→∀ x y h' tk,P1 k x→P2 k y→IsZip h' z TI TO (rawInt s.heap.objs.size)→IsPair h' TO x y→S1 (k+1) h'→S2 (k+1) h'→IsPair h' s.heap.objs.size x y→h'.objs.size=s.heap.objs.size+1 →
   (∀ c o,c≠z→c≠TO→c≠i1→c≠i2→s.heap.get? c=some o→h'.get? c=some o)→Q (.done (.ret (.ref s.heap.objs.size))) { s with heap:=h',toks:=tk })
  (hE:(k=n1∨k=n2)→∀ h' e tk,(∀ c o,c≠z→c≠TO→c≠i1→c≠i2→s.heap.get? c=some o→h'.get? c=some o)→(∃ o,h'.get? e=some o∧o.cls=.type "StopIteration")→E (.ref e) { s with heap:=h',toks:=tk })
  (hk1:k≤n1) (hk2:k≤n2):wpAny (model prog w) A (Builtin.«zip.__next__» ⟨[.ref z],[]⟩) Q E s:=by
 show wpAny _ _ (field (.ref z) 2 >>= _) _ _ _
 refine wpAny_bind (wpAny_field hz rfl (x:=.bool false) rfl ?_)
 show wpAny _ _ (field (.ref z) 3 >>= _) _ _ _
 refine wpAny_bind (wpAny_field hz rfl (x:=.ref TI) rfl ?_)
 refine wpAny_bind (wpAny_seqItems hTI rfl ?_)
 show wpAny _ _ (Builtin.SmallTypes.ownedTupleIsFree (.ref z) >>= _) _ _ _
 refine wpAny_bind ?_
 unfold Builtin.SmallTypes.ownedTupleIsFree
 refine wpAny_bind (wpAny_field hz rfl (x:=.none) rfl (wpAny_pure ?_))
 simp only [if_true]
 refine wpAny_bind (wpAny_rule ?_)
 refine wpAny_bind (wpAny_field hz rfl (x:=.ref TO) rfl ?_)
 refine wpAny_bind (wpAny_setField_rec hz (by simp) fun ha za sa=>?_)
 replace za:IsZip ha z TI TO .ellipsis:=za
 have s1a:S1 k ha:=Draws.sb (D1 A hh) h1 sa ap.z1
 have s2a:S2 k ha:=Draws.sb (D2 A hh) h2 sa ap.z2
 have oa:IsPair ha TO a b:=sa.extBut _ _ ap.TOz hTO
 refine wpAny_bind ?_
 simp only [List.zipIdx_cons,List.zipIdx_nil,List.forIn_cons,List.forIn_nil]
 refine wpAny_bind (wpAny_bind (wpAny_onRaise ?_))
 show wpAny _ _ (Builtin.SmallTypes.nextOf (.ref i1) >>= _) _ _ _
 by_cases l1:k<n1
 ·refine wpAny_bind ((D1 _ hh).item k _ _ _ l1 s1a fun x hb tb px s1b sb=>wpAny_pure ?_)
  have ob:IsPair hb TO a b:=sb.extBut _ _ ap.TOi1 oa
  have s2b:S2 k hb:=Draws.sb (D2 A hh) s2a sb ap.j2
  have zb:IsZip hb z TI TO .ellipsis:=sb.extBut _ _ ap.i1z.symm za
  refine wpAny_bind (wpAny_seqItems ob rfl ?_)
  refine wpAny_bind (wpAny_updateSeq_pair ob fun hc oc sc=>?_)
  replace oc:IsPair hc TO x b:=oc
  have s1c:S1 (k+1) hc:=Draws.sb (D1 A hh) s1b sc ap.O1
  have s2c:S2 k hc:=Draws.sb (D2 A hh) s2b sc ap.O2
  have zc:IsZip hc z TI TO .ellipsis:=sc.extBut _ _ ap.TOz.symm zb
  refine wpAny_bind (wpAny_letGo (wpAny_pure ?_))
  refine wpAny_bind (wpAny_bind (wpAny_onRaise ?_))
  show wpAny _ _ (Builtin.SmallTypes.nextOf (.ref i2) >>= _) _ _ _
  by_cases l2:k<n2
  ·refine wpAny_bind ((D2 _ hh).item k _ _ _ l2 s2c fun y hd td py s2d sd=>wpAny_pure ?_)
   have od:IsPair hd TO x b:=sd.extBut _ _ ap.TOi2 oc
   have s1d:S1 (k+1) hd:=Draws.sb (D1 A hh) s1c sd ap.j1
   have zd:IsZip hd z TI TO .ellipsis:=sd.extBut _ _ ap.i2z.symm zc
   refine wpAny_bind (wpAny_seqItems od rfl ?_)
   refine wpAny_bind (wpAny_updateSeq_pair od fun he oe se=>?_)
   replace oe:IsPair he TO x y:=oe
   have s1e:S1 (k+1) he:=Draws.sb (D1 A hh) s1d se ap.O1
   have s2e:S2 (k+1) he:=Draws.sb (D2 A hh) s2d se ap.O2
   have ze:IsZip he z TI TO .ellipsis:=se.extBut _ _ ap.TOz.symm zd
   refine wpAny_bind (wpAny_letGo (wpAny_pure (wpAny_pure ?_)))
   refine wpAny_bind (wpAny_seqItems oe rfl ?_)
   refine wpAny_bind (wpAny_newTuple ?_)
   have hsz:he.objs.size=s.heap.objs.size:=by rw [se.1,sd.1,sc.1,sb.1,sa.1]
   have kp:∀ c o,c≠z→c≠TO→c≠i1→c≠i2→s.heap.get? c=some o→he.get? c=some o:=fun c o c1 c2 c3 c4 e =>
    se.extBut _ _ c2 (sd.extBut _ _ c4 (sc.extBut _ _ c2 (sb.extBut _ _ c3 (sa.extBut _ _ c1 e))))
   have zlt:z<he.objs.size:=Heap.lt_size ze
   show wpAny _ _ (Builtin.SmallTypes.ownedTupleHandOut (.ref z) (.ref he.objs.size) >>= _) _ _ _
   refine wpAny_bind ?_
   unfold Builtin.SmallTypes.ownedTupleHandOut
   have zf:IsZip (he.push { cls:=.type "tuple",data:=.seq #[x,y] }) z TI TO .ellipsis:=Heap.get?_push_of_some _ ze
   refine wpAny_bind (wpAny_setField_rec zf (by simp) fun hg zg sg=>?_)
   replace zg:IsZip hg z TI TO (rawInt he.objs.size):=zg
   refine wpAny_setField_rec zg (by simp) fun hi zi si=>?_
   replace zi:IsZip hi z TI TO (rawInt he.objs.size):=zi
   have up:∀ c o,c≠z→he.get? c=some o→hi.get? c=some o:=fun c o c1 e=>si.extBut _ _ c1 (sg.extBut _ _ c1 (Heap.get?_push_of_some _ e))
   have tz:IsPair hi he.objs.size x y:=si.extBut _ _ (Nat.ne_of_gt zlt) (sg.extBut _ _ (Nat.ne_of_gt zlt) (Heap.get?_push_size _ rfl))
   have zz:hi.objs.size=he.objs.size+1:=by rw [si.1,sg.1,Heap.size_push]
   have s1i:S1 (k+1) hi:=(D1 A hh).frame _ _ _ s1e fun b hb o e=>up b o (fun q=>ap.z1 (q▸hb)) e
   have s2i:S2 (k+1) hi:=(D2 A hh).frame _ _ _ s2e fun b hb o e=>up b o (fun q=>ap.z2 (q▸hb)) e
   rw [hsz] at zi tz zz
   refine wpAny_pure ?_
   show Q (.done (.ret (.ref he.objs.size))) _
   rw [hsz]
   exact hQ l1 l2 x y hi td px py zi (up _ _ ap.TOz oe) s1i s2i tz zz fun c o c1 c2 c3 c4 e=>up c o c1 (kp c o c1 c2 c3 c4 e)
  ·have e2:k=n2:=Nat.le_antisymm hk2 (Nat.le_of_not_lt l2)
   refine wpAny_bind ((D2 _ hh).done _ _ _ (e2▸s2c) fun hd e sd he=>?_)
   obtain ⟨oe,hoe,hce⟩:=he
   have zd:IsZip hd z TI TO .ellipsis:=sd _ _ ap.i2z.symm zc
   have hez:e≠z:=fun q=>by subst q; rw [zd] at hoe; cases hoe; simp at hce
   refine wpAny_setField_rec zd (by simp) fun hf _ sf=>hE (.inr e2) hf e tb (fun c o c1 c2 c3 c4 q=>sf.extBut _ _ c1 (sd _ _ c4 (sc.extBut _ _ c2 (sb.extBut _ _ c3 (sa.extBut _ _ c1 q))))) ⟨oe,sf.extBut _ _ hez hoe,hce⟩
 ·have e1:k=n1:=Nat.le_antisymm hk1 (Nat.le_of_not_lt l1)
  refine wpAny_bind ((D1 _ hh).done _ _ _ (e1▸s1a) fun hd e sd he=>?_)
  obtain ⟨oe,hoe,hce⟩:=he
  have zd:IsZip hd z TI TO .ellipsis:=sd _ _ ap.i1z.symm za
  have hez:e≠z:=fun q=>by subst q; rw [zd] at hoe; cases hoe; simp at hce
  exact wpAny_setField_rec zd (by simp) fun hf _ sf=>hE (.inl e1) hf e s.toks (fun c o c1 _ c3 _ q=>sf.extBut _ _ c1 (sd _ _ c3 (sa.extBut _ _ c1 q))) ⟨oe,sf.extBut _ _ hez hoe,hce⟩
theorem WalksT.zipD (hh:A.handled=none) (D1:∀ A:Around,A.handled=none→Draws prog w A i1 f1 n1 P1 S1) (D2:∀ A:Around,A.handled=none→Draws prog w A i2 f2 n2 P2 S2) (ap:ZAp z TI TO i1 i2 f1 f2) (m1:i1∈f1) (m2:i2∈f2) :
  WalksT prog w A z (z::TI::TO::f1++f2) [z,TO,i1,i2] (min n1 n2) (fun i vals=>∃ x y,P1 i x∧P2 i y∧vals=#[x,y])
   (fun i h=>IsZip h z TI TO .none∧IsPair h TI (.ref i1) (.ref i2)∧(∃ a b,IsPair h TO a b)∧S1 i h∧S2 i h)
   (fun i T h=>IsZip h z TI TO (rawInt T)∧IsPair h TI (.ref i1) (.ref i2)∧(∃ a b,IsPair h TO a b)∧S1 (i+1) h∧S2 (i+1) h∧T≠z∧T≠TO∧T≠i1∧T≠i2) where
 sub:=fun c hc=>by simp at hc ⊢; rcases hc with rfl | rfl | rfl | rfl <;> simp [m1,m2]
 frame:=fun i h h' hst hk=>by
  obtain ⟨hz,hTI,⟨a,b,hTO⟩,h1,h2⟩:=hst
  exact ⟨hk z (by simp) _ hz,hk TI (by simp) _ hTI,⟨a,b,hk TO (by simp) _ hTO⟩,(D1 A hh).frame _ _ _ h1 fun b hb o e=>hk b (by simp [hb]) o e,(D2 A hh).frame _ _ _ h2 fun b hb o e=>hk b (by simp [hb]) o e⟩
 item:=fun i s Q E hi hst hQ=>by
  obtain ⟨hz,hTI,⟨a,b,hTO⟩,h1,h2⟩:=hst
  have hT:s.TypeIs (.ref z) "zip":=⟨_,hz,rfl⟩
  have lt:∀ {c o},s.heap.get? c=some o→s.heap.objs.size≠c:=fun e=>Nat.ne_of_gt (Heap.lt_size e)
  unfold pyNext
  refine wpAny_bind (wpAny_attempt (wpAny_callSpecial?_slot (name:=Str.ofString "__next__") hT F.slot_zip_next
   (wpAny_call_entry F.slot_zip_next hT F.entry_zip_next (zip_open hz hTI hTO hh D1 D2 ap h1 h2 (fun _ _ x y h' tk px py a1 a2 a3 a4 a5 a6 hk=>⟨_,rfl,wpAny_pure ?_⟩) (fun q=>by omega) (by omega) (by omega)) (F.args_zip_next_1 _))))
  refine hQ s.heap.objs.size #[x,y] h' tk ⟨x,y,px,py,rfl⟩ (Nat.le_refl _) ⟨_,a5,rfl,_,rfl⟩ ⟨a1,hk _ _ ap.TIz ap.TITO ap.TIi1 ap.TIi2 hTI,⟨_,_,a2⟩,a3,a4,lt hz,lt hTO,?_,?_⟩
   fun c o hc e=>hk c o (fun x=>hc (by simp [x])) (fun x=>hc (by simp [x])) (fun x=>hc (by simp [x])) (fun x=>hc (by simp [x])) e
  ·obtain ⟨_,e⟩:=(D1 A hh).live _ _ h1; exact lt e
  ·obtain ⟨_,e⟩:=(D2 A hh).live _ _ h2; exact lt e
 go:=fun elts k pos i T s Q E hm hQ=>by
  obtain ⟨hz,hTI,⟨a,b,hTO⟩,h1,h2,_⟩:=hm
  refine wpAny_letOwnedTupleGo_zip hz fun h' hz' hs'=>hQ h' ⟨hz',hs'.extBut _ _ ap.TIz hTI,⟨a,b,hs'.extBut _ _ ap.TOz hTO⟩,Draws.sb (D1 A hh) h1 hs' ap.z1,Draws.sb (D2 A hh) h2 hs' ap.z2⟩ fun c o hc e=>hs'.extBut _ _ (fun x=>hc (by simp [x])) e
 apart:=fun i T h hm hT=>by
  obtain ⟨_,_,_,_,_,t1,t2,t3,t4⟩:=hm
  simp at hT
  rcases hT with rfl | rfl | rfl | rfl
  ·exact t1 rfl
  ·exact t2 rfl
  ·exact t3 rfl
  ·exact t4 rfl
 done:=fun s Q E hst hQ=>by
  obtain ⟨hz,hTI,⟨a,b,hTO⟩,h1,h2⟩:=hst
  have hT:s.TypeIs (.ref z) "zip":=⟨_,hz,rfl⟩
  unfold pyNext
  refine wpAny_bind (wpAny_attempt (wpAny_callSpecial?_slot (name:=Str.ofString "__next__") hT F.slot_zip_next
   (wpAny_call_entry F.slot_zip_next hT F.entry_zip_next (zip_open hz hTI hTO hh D1 D2 ap h1 h2 (fun q1 q2=>by omega) (fun _ h' e tk hk he=>?_) (by omega) (by omega)) (F.args_zip_next_1 _))))
  obtain ⟨o,ho,hc⟩:=he
  refine wpAny_bind (wpAny_isInstance (T := "StopIteration") (b:=true) ⟨o,ho,hc⟩ isSubtype_stop ?_)
  exact wpAny_pure (hQ _ _ fun c o hc e=>hk c o (fun x=>hc (by simp [x])) (fun x=>hc (by simp [x])) (fun x=>hc (by simp [x])) (fun x=>hc (by simp [x])) e)
 self:=fun i s Q E hst hQ=>wpAny_pyIter_zip hst.1 hQ
end
open PySem PySem.Spec PyProof.Rows
noncomputable def itO (b:Bool) (l:Addr):Obj:={ cls:=.type (if b then "tuple_iterator" else "list_iterator"),data:=.fields #[.ref l,.int 0 0] }
noncomputable abbrev zq2 (h:Heap) (b1 b2:Bool) (l1 l2:Addr):Heap:=(h.push (itO b1 l1)).push (itO b2 l2)
noncomputable abbrev zq3 (h:Heap) (b1 b2:Bool) (l1 l2:Addr):Heap:=(zq2 h b1 b2 l1 l2).push { cls:=.type "tuple",data:=.seq #[.ref h.objs.size,.ref (h.push (itO b1 l1)).objs.size] }
noncomputable abbrev zq4 (h:Heap) (b1 b2:Bool) (l1 l2:Addr):Heap:=(zq3 h b1 b2 l1 l2).push { cls:=.type "tuple",data:=.seq #[.none,.none] }
noncomputable abbrev zq5 (h:Heap) (b1 b2:Bool) (l1 l2:Addr):Heap:=(zq4 h b1 b2 l1 l2).push { cls:=.type "zip",data:=.fields #[.none,.bool false,.bool false,.ref (zq2 h b1 b2 l1 l2).objs.size,.ref (zq3 h b1 b2 l1 l2).objs.size] }
theorem zip_newTT (l1 l2:Addr) (xs ys:Array Value) :
  Meets (Builtin.«zip.__new__» ⟨[.type "zip",.ref l1,.ref l2],[]⟩) (fun _ R s=>s.heap.IsTuple l1 xs∧s.heap.IsTuple l2 ys ∧
   R (.ok (.ret (.ref (zq4 s.heap true true l1 l2).objs.size))) { s with heap:=zq5 s.heap true true l1 l2 }) :=
 .of_wp fun prog w A R s h=>by
  obtain ⟨hp,g,d,tk,os⟩:=s; obtain ⟨hl1,hl2,h⟩:=h
  have hsub:=sub_zip
  have hL1:Heap.IsTuple (Shared.heap ⟨hp,g,d,tk,os⟩) l1 xs:=hl1
  have hL2:Heap.IsTuple (Shared.heap ⟨hp.push { cls:=.type "tuple_iterator",data:=.fields #[.ref l1,.int 0 0] },g,d,tk,os⟩) l2 ys:=Heap.IsTuple.push hl2 _
  wp_walk using wpAny_pyIter_tuple hL1,wpAny_pyIter_tuple hL2
  exact ⟨_,rfl,h⟩
theorem zip_newTL (l1 l2:Addr) (xs ys:Array Value) :
  Meets (Builtin.«zip.__new__» ⟨[.type "zip",.ref l1,.ref l2],[]⟩) (fun _ R s=>s.heap.IsTuple l1 xs∧s.heap.IsList l2 ys ∧
   R (.ok (.ret (.ref (zq4 s.heap true false l1 l2).objs.size))) { s with heap:=zq5 s.heap true false l1 l2 }) :=
 .of_wp fun prog w A R s h=>by
  obtain ⟨hp,g,d,tk,os⟩:=s; obtain ⟨hl1,hl2,h⟩:=h
  have hsub:=sub_zip
  have hL1:Heap.IsTuple (Shared.heap ⟨hp,g,d,tk,os⟩) l1 xs:=hl1
  have hL2:Heap.IsList (Shared.heap ⟨hp.push { cls:=.type "tuple_iterator",data:=.fields #[.ref l1,.int 0 0] },g,d,tk,os⟩) l2 ys:=Heap.IsList.push hl2 _
  wp_walk using wpAny_pyIter_tuple hL1,wpAny_pyIter_list hL2
  exact ⟨_,rfl,h⟩
theorem zip_newLT (l1 l2:Addr) (xs ys:Array Value) :
  Meets (Builtin.«zip.__new__» ⟨[.type "zip",.ref l1,.ref l2],[]⟩) (fun _ R s=>s.heap.IsList l1 xs∧s.heap.IsTuple l2 ys ∧
   R (.ok (.ret (.ref (zq4 s.heap false true l1 l2).objs.size))) { s with heap:=zq5 s.heap false true l1 l2 }) :=
 .of_wp fun prog w A R s h=>by
  obtain ⟨hp,g,d,tk,os⟩:=s; obtain ⟨hl1,hl2,h⟩:=h
  have hsub:=sub_zip
  have hL1:Heap.IsList (Shared.heap ⟨hp,g,d,tk,os⟩) l1 xs:=hl1
  have hL2:Heap.IsTuple (Shared.heap ⟨hp.push { cls:=.type "list_iterator",data:=.fields #[.ref l1,.int 0 0] },g,d,tk,os⟩) l2 ys:=Heap.IsTuple.push hl2 _
  wp_walk using wpAny_pyIter_list hL1,wpAny_pyIter_tuple hL2
  exact ⟨_,rfl,h⟩
theorem zip_newLL (l1 l2:Addr) (xs ys:Array Value) :
  Meets (Builtin.«zip.__new__» ⟨[.type "zip",.ref l1,.ref l2],[]⟩) (fun _ R s=>s.heap.IsList l1 xs∧s.heap.IsList l2 ys ∧
   R (.ok (.ret (.ref (zq4 s.heap false false l1 l2).objs.size))) { s with heap:=zq5 s.heap false false l1 l2 }) :=
 .of_wp fun prog w A R s h=>by
  obtain ⟨hp,g,d,tk,os⟩:=s; obtain ⟨hl1,hl2,h⟩:=h
  have hsub:=sub_zip
  have hL1:Heap.IsList (Shared.heap ⟨hp,g,d,tk,os⟩) l1 xs:=hl1
  have hL2:Heap.IsList (Shared.heap ⟨hp.push { cls:=.type "list_iterator",data:=.fields #[.ref l1,.int 0 0] },g,d,tk,os⟩) l2 ys:=Heap.IsList.push hl2 _
  wp_walk using wpAny_pyIter_list hL1,wpAny_pyIter_list hL2
  exact ⟨_,rfl,h⟩
theorem zip_newX (b1 b2:Bool) (l1 l2:Addr) (xs ys:Array Value) :
  Meets (Builtin.«zip.__new__» ⟨[.type "zip",.ref l1,.ref l2],[]⟩) (fun _ R s=>IsX b1 s.heap l1 xs∧IsX b2 s.heap l2 ys ∧
   R (.ok (.ret (.ref (zq4 s.heap b1 b2 l1 l2).objs.size))) { s with heap:=zq5 s.heap b1 b2 l1 l2 }):=by
 cases b1 with
 | true=>cases b2 with
  | true=>exact zip_newTT l1 l2 xs ys
  | false=>exact zip_newTL l1 l2 xs ys
 | false=>cases b2 with
  | true=>exact zip_newLT l1 l2 xs ys
  | false=>exact zip_newLL l1 l2 xs ys
theorem itX_new {b:Bool}{h:Heap}{j l:Addr} (e:h.get? j=some (itO b l)):ItX b h j l 0:=by
 cases b with
 | true=>exact ⟨_,e,rfl,rfl⟩
 | false=>exact ⟨_,e,rfl,rfl⟩
theorem itO_live (b:Bool) (l:Addr):(itO b l).isFreed=false:=by cases b <;> rfl
section
variable {prog:Program}{w:World}{A:Around}{E:Value→Shared→Prop}{s:Shared}
theorem call_zipX {b1 b2:Bool}{l1 l2:Addr}{xs ys:Array Value}{Q:Value→Shared→Prop} (hl1:IsX b1 s.heap l1 xs) (hl2:IsX b2 s.heap l2 ys)
  (h:∀ h',IsZip h' (s.heap.objs.size+4) (s.heap.objs.size+2) (s.heap.objs.size+3) .none→IsPair h' (s.heap.objs.size+2) (.ref s.heap.objs.size) (.ref (s.heap.objs.size+1)) →
   IsPair h' (s.heap.objs.size+3) .none .none→ItX b1 h' s.heap.objs.size l1 0→ItX b2 h' (s.heap.objs.size+1) l2 0 →
   (∀ c o,s.heap.get? c=some o→h'.get? c=some o)→Q (.ref (s.heap.objs.size+4)) { s with heap:=h' }) :
  wpAny (model prog w) A (call (.type "zip") [.ref l1,.ref l2]) Q E s:=by
 refine callType_new F.called_zip (by decide) (F.typeCall_zip_2 _ _) (F.newCall_zip_2 _ _) (fun obj=>F.args_object_init_3 obj _ _) F.entry_zip_new (zip_newX b1 b2 l1 l2 xs ys) ⟨hl1,hl2,?_⟩
 have z1:(s.heap.push (itO b1 l1)).objs.size=s.heap.objs.size+1:=Heap.size_push ..
 have z2:(zq2 s.heap b1 b2 l1 l2).objs.size=s.heap.objs.size+2:=by rw [Heap.size_push,z1]
 have z3:(zq3 s.heap b1 b2 l1 l2).objs.size=s.heap.objs.size+3:=by rw [Heap.size_push,z2]
 have z4:(zq4 s.heap b1 b2 l1 l2).objs.size=s.heap.objs.size+4:=by rw [Heap.size_push,z3]
 have g5:(zq5 s.heap b1 b2 l1 l2).get? (zq4 s.heap b1 b2 l1 l2).objs.size=some _:=Heap.get?_push_size _ rfl
 have g4:(zq5 s.heap b1 b2 l1 l2).get? (zq3 s.heap b1 b2 l1 l2).objs.size=some _:=Heap.get?_push_of_some _ (Heap.get?_push_size _ rfl)
 have g3:(zq5 s.heap b1 b2 l1 l2).get? (zq2 s.heap b1 b2 l1 l2).objs.size=some _:=Heap.get?_push_of_some _ (Heap.get?_push_of_some _ (Heap.get?_push_size _ rfl))
 have g2:(zq5 s.heap b1 b2 l1 l2).get? (s.heap.push (itO b1 l1)).objs.size=some (itO b2 l2):=Heap.get?_push_of_some _ (Heap.get?_push_of_some _ (Heap.get?_push_of_some _ (Heap.get?_push_size _ (itO_live _ _))))
 have g1:(zq5 s.heap b1 b2 l1 l2).get? s.heap.objs.size=some (itO b1 l1):=Heap.get?_push_of_some _ (Heap.get?_push_of_some _ (Heap.get?_push_of_some _ (Heap.get?_push_of_some _ (Heap.get?_push_size _ (itO_live _ _)))))
 show _∧_
 rw [z2,z3,z4] at g5
 rw [z1,z2] at g3
 rw [z3] at g4
 rw [z1] at g2
 rw [z4]
 exact ⟨⟨_,g5,rfl⟩,h _ g5 g3 g4 (itX_new g1) (itX_new g2) fun c o x =>
  Heap.get?_push_of_some _ (Heap.get?_push_of_some _ (Heap.get?_push_of_some _ (Heap.get?_push_of_some _ (Heap.get?_push_of_some _ x))))⟩
end
theorem zap_new {n l1 l2:Addr} (h1:l1<n) (h2:l2<n):ZAp (n+4) (n+2) (n+3) n (n+1) [n,l1] [n+1,l2]:=by
 constructor <;> (try simp only [List.mem_cons,List.not_mem_nil,or_false,not_or]) <;> (try refine ⟨?_,?_⟩) <;> (show ¬ ((_:Nat)=_)) <;> (simp only [Addr] at *; omega)
inductive ZgoX (b1 b2:Bool) (K:W.Frag) (H:Hp) (a b:Addr) (i:Nat):Prop
 | mk (xs ys:List V) (x y:V) (q1:SqX b1 K H a xs) (q2:SqX b2 K H b ys) (ex:xs[i]?=some x) (ey:ys[i]?=some y)
inductive ZstX (b1 b2:Bool) (K:W.Frag) (H:Hp) (a b:Addr) (i:Nat):Prop
 | mk (xs ys:List V) (q1:SqX b1 K H a xs) (q2:SqX b2 K H b ys) (ei:i=min xs.length ys.length)
noncomputable def ItzX (b1 b2:Bool) (K:W.Frag) (a b:Addr):It :=
  ⟨fun i H=>ZgoX b1 b2 K H a b i,
   fun i H v H'=>∃ T,H T=none∧v=.ref T∧∀ xs ys x y,SqX b1 K H a xs→SqX b2 K H b ys→xs[i]?=some x→ys[i]?=some y→H'=upd H T (.tup [x,y]),
   fun i H=>ZstX b1 b2 K H a b i⟩
structure ZsX (b1 b2:Bool) (z TI TO i1 i2 l1 l2:Addr) (i:Nat) (h:Heap):Prop where
 a1:IsZip h z TI TO .none
 a2:IsPair h TI (.ref i1) (.ref i2)
 a3:∃ a b,IsPair h TO a b
 a4:ItX b1 h i1 l1 i
 a5:ItX b2 h i2 l2 i
section
variable {b1 b2:Bool}{z TI TO i1 i2 l1 l2:Addr}{i:Nat}{h:Heap}
theorem ZsX.obj (st:ZsX b1 b2 z TI TO i1 i2 l1 l2 i h):∀ b∈[z,TI,TO,i1,i2],∃ o,h.get? b=some o∧∀ v,o.data≠.cell v:=by
 obtain ⟨_,_,a3⟩:=st.a3
 exact allC ⟨_,st.a1,fun v q=>by cases q⟩ (allC ⟨_,st.a2,fun v q=>by cases q⟩ (allC ⟨_,a3,fun v q=>by cases q⟩ (allC st.a4.obj (allC st.a5.obj allN))))
theorem ZsX.ne (st:ZsX b1 b2 z TI TO i1 i2 l1 l2 i h) {T:Addr} (hT:h.objs.size≤T):∀ b∈[z,TI,TO,i1,i2],b≠T:=fun b hb=>by
 obtain ⟨o,e,_⟩:=st.obj b hb
 exact Nat.ne_of_lt (Nat.lt_of_lt_of_le (Heap.lt_size e) hT)
theorem zsub:∀ b∈[z,TO,i1,i2],b∈[z,TI,TO,i1,i2]:=allC (by simp) (allC (by simp) (allC (by simp) (allC (by simp) allN)))
inductive ZFX (b1 b2:Bool) (X:Cx) (s:Shared) (H:Hp) (l1 l2:Addr) (i:Nat):Prop
 | mk (xs ys:List V) (x y:V) (t1 t2:List Value) (u1 u2:Value) (q1:SqX b1 X.K H l1 xs) (q2:SqX b2 X.K H l2 ys) (ex:xs[i]?=some x) (ey:ys[i]?=some y) (p1:IsX b1 s.heap l1 t1.toArray) (p2:IsX b2 s.heap l2 t2.toArray)
  (e1:t1[i]?=some u1) (e2:t2[i]?=some u2) (r1:RelV x u1) (r2:RelV y u2)
variable {X:Cx}{pins:List (Addr × Obj)}{σ:St}{H:Hp}{s:Shared}
theorem zfX (I:Inv X pins σ H s) (hg:ZgoX b1 b2 X.K H l1 l2 i):ZFX b1 b2 X s H l1 l2 i:=by
 obtain ⟨xs,ys,x,y,q1,q2,ex,ey⟩:=hg
 obtain ⟨its1,r1,p1⟩:=I.sqX q1
 obtain ⟨its2,r2,p2⟩:=I.sqX q2
 obtain ⟨u1,e1,ru1⟩:=r1.get ex
 obtain ⟨u2,e2,ru2⟩:=r2.get ey
 exact ⟨xs,ys,x,y,its1,its2,u1,u2,q1,q2,ex,ey,p1,p2,e1,e2,ru1,ru2⟩
theorem zvX {t1 t2:List Value}{u1 u2:Value}{vals:Array Value} (e1:t1[i]?=some u1) (e2:t2[i]?=some u2) (hv:∃ v1 v2,t1.toArray[i]?=some v1∧t2.toArray[i]?=some v2∧vals=#[v1,v2]):vals=#[u1,u2]:=by
 obtain ⟨v1,v2,g1,g2,rfl⟩:=hv
 rw [List.getElem?_toArray,e1] at g1
 rw [List.getElem?_toArray,e2] at g2
 cases g1; cases g2; rfl
theorem zyX (I:Inv X pins σ H s) {xs ys:List V}{x y:V} (q1:SqX b1 X.K H l1 xs) (q2:SqX b2 X.K H l2 ys) (ex:xs[i]?=some x) (ey:ys[i]?=some y) {T:Addr} (xs' ys':List V) (x' y':V) (s1:SqX b1 X.K H l1 xs') (s2:SqX b2 X.K H l2 ys') (t1:xs'[i]?=some x') (t2:ys'[i]?=some y'):upd H T (.tup [x,y])=upd H T (.tup [x',y']):=by
 have h1:=I.sqX_inj q1 s1
 have h2:=I.sqX_inj q2 s2
 subst h1 h2
 rw [ex] at t1; rw [ey] at t2
 cases t1; cases t2; rfl
end
theorem turn_zipX {P:Program}{w:World}{K:PySem.W.Frag}{elts:List Expr}{k:Nat}{pos:Pos} (b1 b2:Bool) (z TI TO i1 i2 l1 l2:Addr) (D:ZAp z TI TO i1 i2 [i1,l1] [i2,l2]) (d1:l1≠i1) (d2:l2≠i2) :
  Turn P w K (.Tuple elts k pos) (ItzX b1 b2 K l1 l2) [z,TI,TO,i1,i2] z (ZsX b1 b2 z TI TO i1 i2 l1 l2) where
 mem:=by simp
 obj:=fun i h st=>st.obj
 keep:=fun i h h' ⟨a1,a2,⟨x,y,a3⟩,a4,a5⟩ kk =>
  ⟨kk z (by simp) _ a1,kk TI (by simp) _ a2,⟨x,y,kk TO (by simp) _ a3⟩,a4.keep fun o e=>kk i1 (by simp) o e,a5.keep fun o e=>kk i2 (by simp) o e⟩
 item:=by
  intro X hP hw hK hc i pins s σ H E I hf st hg
  subst hP hw hK
  obtain ⟨xs,ys,x,y,its1,its2,u1,u2,q1,q2,ex,ey,p1,p2,e1,e2,ru1,ru2⟩:=zfX I hg
  have W:=WalksT.zipD (prog:=X.prog) (w:=X.w) (I.ok.hd hc) (fun A hh=>drawsX b1 hh i1 l1 d1 its1.toArray) (fun A hh=>drawsX b2 hh i2 l2 d2 its2.toArray) D (by simp) (by simp)
  have hl1:i<its1.length:=(List.getElem?_eq_some_iff.mp e1).1
  have hl2:i<its2.length:=(List.getElem?_eq_some_iff.mp e2).1
  have hwr:∀ b∈[z,TO,i1,i2],FpOk X pins H b:=fun b hb=>hf b (zsub b hb)
  refine W.item i s _ _ (by simp only [List.size_toArray]; omega) ⟨st.a1,st.a2,st.a3,⟨st.a4,p1⟩,st.a5,p2⟩ fun T vals h' tk hv hT hIs hM kk=>?_
  have hvv:=zvX e1 e2 hv
  subst hvv
  have nT:=st.ne hT
  refine ⟨_,rfl,W.go _ _ _ i T { s with heap:=h',toks:=tk } _ _ hM fun h2 st2 kk2=>?_⟩
  have I1:Inv X pins σ (upd H T (.tup [x,y])) { s with heap:=h',toks:=tk }:=I.yields (its:=[u1,u2]) hwr kk hT (.cons ru1 (.cons ru2 .nil)) (by show 2≤sizeLine; decide) hIs
  have I2:=I1.turnedL (tk:=tk) (fp_upd hwr fun b hb=>nT b (zsub b hb)) kk2
  exact ⟨.ref T,_,I2,rfl,⟨T,I.hok.fresh hT,rfl,zyX I q1 q2 ex ey⟩,⟨st2.1,st2.2.1,st2.2.2.1,st2.2.2.2.1.1,st2.2.2.2.2.1⟩,fun b hb=>by rw [upd_ne (nT b hb)]; exact (hf b hb).1⟩
 done:=by
  intro X hP hw hK hc i pins s σ H E I hf st hg
  subst hP hw hK
  obtain ⟨xs,ys,q1,q2,ei⟩:=hg
  obtain ⟨its1,r1,p1⟩:=I.sqX q1
  obtain ⟨its2,r2,p2⟩:=I.sqX q2
  have W:=WalksT.zipD (prog:=X.prog) (w:=X.w) (I.ok.hd hc) (fun A hh=>drawsX b1 hh i1 l1 d1 its1.toArray) (fun A hh=>drawsX b2 hh i2 l2 d2 its2.toArray) D (by simp) (by simp)
  have en:i=min its1.toArray.size its2.toArray.size:=by simp only [List.size_toArray,← r1.length,← r2.length]; exact ei
  refine W.done s _ _ (by rw [← en]; exact ⟨st.a1,st.a2,st.a3,⟨st.a4,p1⟩,st.a5,p2⟩) fun h' tk kk=>?_
  exact ⟨rfl,I.turnedL (fun b hb=>hf b (zsub b hb)) kk⟩
 self:=fun _ _ _ _ _ st h=>wpAny_pyIter_zip st.a1 h
section
variable {X:Cx}
noncomputable def iZipX (K:W.Frag) (ta:TA):TI:=fun σ H R=>ta σ H fun vs H1=>∃ a b b1 b2,vs=[.ref a,.ref b]∧(∃ xs,SqX b1 K H1 a xs)∧(∃ ys,SqX b2 K H1 b ys)∧R (ItzX b1 b2 K a b) H1
theorem pi_zipX {elts:List Expr}{k:Nat}{tpos:Pos}{a b:Expr}{ta:TA}{p pos:Pos} (hg:Gl X "zip") (hm:X.mg "zip"=none) (ha:PA X [a,b] ta) (hs:starEach [a,b] X.env=[(false,eval a X.env),(false,eval b X.env)]:=by rfl) (hs2:starEach [b] X.env=[(false,eval b X.env)]:=by rfl) :
  PI X (.Tuple elts k tpos) (.Call (.Name "zip" p) [a,b] [] pos) (iZipX X.K ta):=by
 intro pins s σ H R I h
 refine Call_ (ld_blt I hg hm bt_zip (PyProof.Rows.callWith_type1 (thn (ha pos pins s σ H _ I h) fun us s1 ⟨vs,H1,I1,r1,q1⟩=>?_) (by rw [hs,hs2]) (by rw [hs2]; rfl)))
 obtain ⟨l1,l2,b1,b2,e,⟨xs,h1⟩,⟨ys,h2⟩,q⟩:=q1
 subst e
 cases r1 with
 | cons r rr =>
  cases rr with
  | cons r' rr =>
   cases rr
   cases r
   cases r'
   obtain ⟨its1,v1,p1⟩:=I1.sqX h1
   obtain ⟨its2,v2,p2⟩:=I1.sqX h2
   refine call_zipX p1 p2 fun h' hz hTI hTO hi1 hi2 hk=>?_
   refine wpAny_pyIter_zip hz ?_
   have I2:Inv X pins σ H1 { s1 with heap:=h' }:=I1.kept (t':=s1.toks) hk
   refine ⟨_,_,_,_,H1,rfl,I2,turn_zipX b1 b2 _ _ _ _ _ l1 l2 (zap_new p1.lt p2.lt) (Nat.ne_of_lt p1.lt) (Nat.ne_of_lt (Nat.lt_succ_of_lt p2.lt)),⟨hz,hTI,⟨_,_,hTO⟩,hi1,hi2⟩,fun b hb=>?_,q⟩
   have hle:s1.heap.objs.size≤b:=by
    simp only [List.mem_cons,List.not_mem_nil,or_false] at hb
    rcases hb with rfl | rfl | rfl | rfl | rfl
    ·exact Nat.le_add_right _ _
    ·exact Nat.le_add_right _ _
    ·exact Nat.le_add_right _ _
    ·exact Nat.le_refl _
    ·exact Nat.le_add_right _ _
   exact I1.fpOk hle (I1.hok.fresh hle)
end
open PySem PySem.Spec PyProof.Rows
section
variable {X:Cx}{pins:List (Addr × Obj)}{σ:St}{H:Hp}{s:Shared}{scope:Scope}{N:List Str}{C:Addr}{ex:List Addr}
theorem ps_compSet {elt iter tg:Expr}{ifs:List Expr}{pos pos' spos:Pos}{y0:Str}{go:TG} (hgo:PG X (.Name y0 pos') go) (hsw:swapsWith (.ListComp elt [⟨tg,iter,ifs,0⟩] scope pos) (some (.Name y0 pos')) spos.line X.env=pure true) {wi:TI}{g:TG}{tc:TT}{te:TE}{k:Nat}{js:List Nat}
  (B:CompH X scope N k js) (hi:PI X tg iter wi)
  (hg:∀ cl s H C ex,PG (cxComp X scope N cl s H C ex) tg g) (htc:∀ cl s H C ex,PTs (cxComp X scope N cl s H C ex) ifs tc) (hte:∀ cl s H C ex,PE (cxComp X scope N cl s H C ex) elt te)
  (hs:∀ x,foldedSetIterable iter X.env x=pure x:=by intro _; rfl):PS X (.Assign [.Name y0 pos'] (.ListComp elt [⟨tg,iter,ifs,0⟩] scope pos) spos) (tAsg (tComp wi k js g tc te) go):=by
 intro pins s σ H D0 I h
 rw [exec_Assign_Name_used _ _ _ _ hsw]
 refine wpAny_bind (wpAny_standAt (wpAny_bind ?_))
 show wpAny _ X.A (do let _ ← comprehension (.ListComp elt [⟨tg,iter,ifs,0⟩] scope pos) scope X.env _ (newList []) false (eval iter X.env) (some (assign (.Name y0 pos') X.env))) _ _ s
 refine wpAny_bind (wpAny_mono (wpAny_comprehension_free (use:=some (assign (.Name y0 pos') X.env)) (Q:=fun _ s'=>SP X pins D0 .next s') rfl hs (closureFor_ok fun x hx=>I.ok.has x (B.free x hx)) B.kind B.names (thn (hi pins s σ H _ I h) fun v s1 h1=>thn h1 fun itv s2 h2=>?_)) (fun _ s' hq=>wpAny_pure (wpAny_pure hq)) fun _ _ e=>e)
 obtain ⟨it,fp,tn,J,H2,e,I2,T,st2,f2,hW⟩:=h2
 subst e
 refine comp_run (Q:=fun x H1=>go x σ H1 D0.nx) B I2 T st2 f2 hg htc hte hW fun cl C H4 s5 hCle hDC I5 q=>?_
 obtain ⟨m,hn,_⟩:=id I5.loc
 have hC4:H4 C=none:=I5.free
 have IA:Inv X pins σ H4 s5:=I2.call' (s':=s5) (ch:=fp) I5.os I5.base I5.hok I5.bare (fun b hb=>⟨(f2 b hb).2.2.2.1,(f2 b hb).2.1,(f2 b hb).2.2.2.2.1,(f2 b hb).2.2.2.2.2⟩)
 have fC:∀ {H':Hp},H' C=none→∀ b∈[C],FpOk X pins H' b:=fun hn b hb=>by
  have:b=C:=by simpa using hb
  subst this
  exact I2.fpOk hCle hn
 have oC:∀ b∈[C],∃ o,s5.heap.get? b=some o∧∀ v,o.data≠.cell v:=fun b hb=>by
  have:b=C:=by simpa using hb
  subst this
  obtain ⟨o,_,_,ho,hd,_⟩:=id hn
  exact ⟨o,ho,fun v z=>by rw [hd] at z; cases z⟩
 have IB:=IA.pinned (fC hC4) oC
 refine thn (hgo _ s5 σ H4 (.ref s2.heap.objs.size) (.ref s2.heap.objs.size) _ IB rfl q) fun _ s6 ⟨σ6,H6,I6,q6⟩=>?_
 obtain ⟨oc,hoc,_⟩:=oC C (by simp)
 have hp6:=I6.pin (C,oc) (List.mem_append_right _ (List.mem_append_right _ (mem_pinsAt (by simp) hoc)))
 refine ⟨m,hn.at' fun o e=>?_,fun h' hs'=>⟨σ6,H6,?_,q6⟩⟩
 ·have e':s5.heap.get? C=some o:=e
  rw [hoc] at e'; cases e'; exact hp6.1
 ·exact I6.unpinned.turnedL (wr:=[C]) (tk:=s6.toks) (fC hp6.2.1) fun b o nb e=>hs'.extBut b o (by simpa using nb) e
end
open PySem PySem.Spec PyProof.Rows
abbrev IsTri (h:Heap) (T:Addr) (a b c:Value):Prop:=h.get? T=some { cls:=.type "tuple",data:=.seq #[a,b,c] }
structure ZAp3 (z TI TO i1 i2 i3:Addr) (f1 f2 f3:List Addr):Prop where
 TIz:TI≠z
 TOz:TO≠z
 i1z:i1≠z
 i2z:i2≠z
 i3z:i3≠z
 TITO:TI≠TO
 TIi1:TI≠i1
 TIi2:TI≠i2
 TIi3:TI≠i3
 TOi1:TO≠i1
 TOi2:TO≠i2
 TOi3:TO≠i3
 z1:z∉f1
 z2:z∉f2
 z3:z∉f3
 O1:TO∉f1
 O2:TO∉f2
 O3:TO∉f3
 a12:i1∉f2
 a13:i1∉f3
 a21:i2∉f1
 a23:i2∉f3
 a31:i3∉f1
 a32:i3∉f2
inductive Zgo3 (K:W.Frag) (H:Hp) (a b c:Addr) (i:Nat):Prop
 | mk (xs ys us:List V) (x y u:V) (q1:SqL K H a xs) (q2:SqT K H b ys) (q3:SqT K H c us) (ex:xs[i]?=some x) (ey:ys[i]?=some y) (eu:us[i]?=some u)
inductive Zst3 (K:W.Frag) (H:Hp) (a b c:Addr) (i:Nat):Prop
 | mk (xs ys us:List V) (q1:SqL K H a xs) (q2:SqT K H b ys) (q3:SqT K H c us) (ei:i=min xs.length (min ys.length us.length))
structure Zs3 (z TI TO i1 i2 i3 l1 l2 l3:Addr) (i:Nat) (h:Heap):Prop where
 a1:IsZip h z TI TO .none
 a2:IsTri h TI (.ref i1) (.ref i2) (.ref i3)
 a3:∃ a b c,IsTri h TO a b c
 a4:ItX false h i1 l1 i
 a5:ItX true h i2 l2 i
 a6:ItX true h i3 l3 i
section
variable {z TI TO i1 i2 i3 l1 l2 l3:Addr}{i:Nat}{h:Heap}
theorem Zs3.obj (st:Zs3 z TI TO i1 i2 i3 l1 l2 l3 i h):∀ b∈[z,TI,TO,i1,i2,i3],∃ o,h.get? b=some o∧∀ v,o.data≠.cell v:=by
 obtain ⟨_,_,_,a3⟩:=st.a3
 exact allC ⟨_,st.a1,fun v q=>by cases q⟩ (allC ⟨_,st.a2,fun v q=>by cases q⟩ (allC ⟨_,a3,fun v q=>by cases q⟩ (allC st.a4.obj (allC st.a5.obj (allC st.a6.obj allN)))))
theorem Zs3.ne (st:Zs3 z TI TO i1 i2 i3 l1 l2 l3 i h) {T:Addr} (hT:h.objs.size≤T):∀ b∈[z,TI,TO,i1,i2,i3],b≠T:=fun b hb=>by
 obtain ⟨o,e,_⟩:=st.obj b hb
 exact Nat.ne_of_lt (Nat.lt_of_lt_of_le (Heap.lt_size e) hT)
inductive ZF3 (X:Cx) (s:Shared) (H:Hp) (l1 l2 l3:Addr) (i:Nat):Prop
 | mk (xs ys us:List V) (x y u:V) (t1 t2 t3:List Value) (u1 u2 u3:Value) (q1:SqL X.K H l1 xs) (q2:SqT X.K H l2 ys) (q3:SqT X.K H l3 us) (ex:xs[i]?=some x) (ey:ys[i]?=some y) (eu:us[i]?=some u)
  (p1:IsX false s.heap l1 t1.toArray) (p2:IsX true s.heap l2 t2.toArray) (p3:IsX true s.heap l3 t3.toArray) (e1:t1[i]?=some u1) (e2:t2[i]?=some u2) (e3:t3[i]?=some u3) (r1:RelV x u1) (r2:RelV y u2) (r3:RelV u u3)
variable {X:Cx}{pins:List (Addr × Obj)}{σ:St}{H:Hp}{s:Shared}
end
open PySem PySem.Spec PyProof.Rows
section
variable {X:Cx}
theorem truth_ints {A:Around}{prog:Program}{w:World}{ns:List Int}{its:List Value} (r:Vals (ns.map V.int) its):TruthOf prog w A (fun i v=>its.toArray[i]?=some v) (fun i=>(ns.map (· != 0)).getD i false):=by
 intro i v s Q E hv hq
 have hv':its[i]?=some v:=by simpa using hv
 have hl:i<ns.length:=by
  have h1:=(List.getElem?_eq_some_iff.mp hv').1
  have h2:=r.length
  rw [List.length_map] at h2
  omega
 obtain ⟨u,e,ru⟩:=Vals.get r (i:=i) (x:=.int ns[i]) (by rw [List.getElem?_map,List.getElem?_eq_getElem hl]; rfl)
 rw [e] at hv'
 cases hv'
 obtain ⟨t,rfl⟩:=ru
 have eq:(ns.map (· != 0)).getD i false=(ns[i] != 0):=by simp [List.getD,hl]
 have hq':Q ((ns.map (· != 0)).getD i false) s:=hq
 rw [eq] at hq'
 exact PyProof.Rows.truthy_int hq'
theorem call_allT (hc:X.calm=true):CallR X (.builtin "all") (fun vs H Q=>∃ (p:Addr) (ns:List Int),vs=[.ref p]∧SqT X.K H p (ns.map V.int)∧Q (.bl (ns.all (· != 0))) H):=by
 intro pins s σ H xs us Q I r h
 obtain ⟨p,ns,rfl,hq,q⟩:=h
 obtain ⟨u,rfl,ru⟩:=vals1 r
 cases ru
 obtain ⟨its,rv,pl,hz⟩:=I.tuple hq
 have pl':s.heap.IsTuple p its.toArray:=pl
 have hlt:p<s.heap.objs.size:=by obtain ⟨_,e,_⟩:=pl'; exact Heap.lt_size e
 have hlen:=rv.length
 rw [List.length_map] at hlen
 refine call_all_walk (wpAny_pyIter_tuple pl' ?_)
 refine ⟨s.heap.objs.size,_,[s.heap.objs.size],_,_,_,_,rfl,Walks.tuple (A:=X.A.in1) (show X.A.in1.handled=none from I.ok.hd hc) s.heap.objs.size p (Nat.ne_of_lt hlt) its.toArray,⟨⟨_,Heap.get?_push_size _ rfl,rfl,rfl⟩,pl'.push _⟩,truth_ints rv,fun h' tk kk=>?_⟩
 have e:(List.range its.toArray.size).all (fun i=>(ns.map (· != 0)).getD i false)=ns.all (· != 0):=by rw [List.size_toArray,← hlen,show ns.length=(ns.map (· != 0)).length by simp,range_all,List.all_map]; rfl
 rw [e]
 refine ⟨.bl (ns.all (· != 0)),H,?_,rfl,q⟩
 exact I.kept (t':=tk) fun b o eb=>kk b o (by simp only [List.mem_singleton]; exact Nat.ne_of_lt (Heap.lt_size eb)) (Heap.get?_push_of_some _ eb)
theorem call_anyT (hc:X.calm=true):CallR X (.builtin "any") (fun vs H Q=>∃ (p:Addr) (ns:List Int),vs=[.ref p]∧SqT X.K H p (ns.map V.int)∧Q (.bl (ns.any (· != 0))) H):=by
 intro pins s σ H xs us Q I r h
 obtain ⟨p,ns,rfl,hq,q⟩:=h
 obtain ⟨u,rfl,ru⟩:=vals1 r
 cases ru
 obtain ⟨its,rv,pl,hz⟩:=I.tuple hq
 have pl':s.heap.IsTuple p its.toArray:=pl
 have hlt:p<s.heap.objs.size:=by obtain ⟨_,e,_⟩:=pl'; exact Heap.lt_size e
 have hlen:=rv.length
 rw [List.length_map] at hlen
 refine call_any_walk (wpAny_pyIter_tuple pl' ?_)
 refine ⟨s.heap.objs.size,_,[s.heap.objs.size],_,_,_,_,rfl,Walks.tuple (A:=X.A.in1) (show X.A.in1.handled=none from I.ok.hd hc) s.heap.objs.size p (Nat.ne_of_lt hlt) its.toArray,⟨⟨_,Heap.get?_push_size _ rfl,rfl,rfl⟩,pl'.push _⟩,truth_ints rv,fun h' tk kk=>?_⟩
 have e:(List.range its.toArray.size).any (fun i=>(ns.map (· != 0)).getD i false)=ns.any (· != 0):=by rw [List.size_toArray,← hlen,show ns.length=(ns.map (· != 0)).length by simp,range_any,List.any_map]; rfl
 rw [e]
 refine ⟨.bl (ns.any (· != 0)),H,?_,rfl,q⟩
 exact I.kept (t':=tk) fun b o eb=>kk b o (by simp only [List.mem_singleton]; exact Nat.ne_of_lt (Heap.lt_size eb)) (Heap.get?_push_of_some _ eb)
theorem mt_bits:MtR X "int.bit_length" (fun x vs H Q=>∃ i:Int,x=.int i∧vs=[]∧Q (.int ((Builtin.Int.intBits i:Nat):Int)) H):=by
 intro pins s σ H x xs v us Q I rx rs h
 obtain ⟨i,rfl,rfl,q⟩:=h
 obtain ⟨t,rfl⟩:=rx
 have:=rs.zero
 subst this
 exact call_int_bit_length ⟨.int _,H,I.tok _,⟨_,rfl⟩,q⟩
end
open PySem PySem.Spec PyProof.Rows
def Raw (h:Heap) (d:Addr) (es:Array DictEntry) (ep:Nat):Prop:=∃ o,h.get? d=some o∧o.cls=.type "dict"∧o.data=.dict es ep
theorem Raw.at {h h':Heap}{d:Addr}{es:Array DictEntry}{ep:Nat} (x:Raw h d es ep) (e:∀ o,h.get? d=some o→h'.get? d=some o):Raw h' d es ep:=let ⟨o,ho,r⟩:=x; ⟨o,e o ho,r⟩
theorem Raw.lt {h:Heap}{d:Addr}{es:Array DictEntry}{ep:Nat} (x:Raw h d es ep):d<h.objs.size:=let ⟨_,ho,_⟩:=x; Heap.lt_size ho
open PySem PySem.Spec PyProof.Rows
section
variable {prog:Program}{w:World}{A:Around}{E:Value→Shared→Prop}{s:Shared}{z TI TO i1 i2:Addr}{f1 f2:List Addr}{n1 n2 k:Nat}{P1 P2:Nat→Value→Prop}{S1 S2:Nat→Heap→Prop}
abbrev IsZipB (h:Heap) (z TI TO T:Addr) (b:Bool):Prop:=h.get? z=some { cls:=.type "zip",data:=.fields #[rawInt T,.bool b,.bool false,.ref TI,.ref TO] }
inductive ZWay (z TI TO:Addr) (h:Heap):Prop
 | fresh (e:IsZip h z TI TO .none)
 | busy (T:Addr) (oT:Obj) (b:Bool) (e:IsZipB h z TI TO T b) (a:h.get? T=some oT) (nz:T≠z) (n1:T≠TO)
structure ZRun (z TI TO i1 i2:Addr) (S1 S2:Nat→Heap→Prop) (k:Nat) (h:Heap):Prop where
 way:ZWay z TI TO h
 ti:IsPair h TI (.ref i1) (.ref i2)
 to:∃ a b,IsPair h TO a b
 s1:S1 k h
 s2:S2 k h
end
open PySem PySem.Spec PyProof.Rows
section
variable {prog:Program}{w:World}{A:Around}{z TI TO i1 i2 d:Addr}{f1 f2:List Addr}{n1 n2:Nat}{P1 P2:Nat→Value→Prop}{S1 S2:Nat→Heap→Prop}
noncomputable abbrev TK2 (prog:Program) (w:World):=tupleKind (mixKind prog w)
def DRaw (prog:Program) (w:World) (h:Heap) (d:Addr) (xs:List (List Key × Addr × Value)):Prop:=∃ o es ep,h.get? d=some o∧o.ExactDict∧o.data=.dict es ep∧es.toList=xs.map (entryOfKey (TK2 prog w))∧(xs.map (·.1)).Nodup
theorem DRaw.of {h:Heap}{xs:List (List Key × Addr × Value)} (x:h.DictOfH (TK2 prog w) d xs):DRaw prog w h d xs:=let ⟨o,es,ep,a,b,c,e,_,f⟩:=x; ⟨o,es,ep,a,b,c,e,f⟩
theorem DRaw.at {h h':Heap}{xs:List (List Key × Addr × Value)} (x:DRaw prog w h d xs) (e:∀ o,h.get? d=some o→h'.get? d=some o):DRaw prog w h' d xs:=let ⟨o,es,ep,a,r⟩:=x; ⟨o,es,ep,e o a,r⟩
theorem ZRun.frame {h h':Heap}{k:Nat} (r:ZRun z TI TO i1 i2 S1 S2 k h) (D1:Draws prog w A i1 f1 n1 P1 S1) (D2:Draws prog w A i2 f2 n2 P2 S2) (e:∀ c o,c≠d→h.get? c=some o→h'.get? c=some o) (hd:∃ o,h'.get? d=some o) (nz:d≠z) (ni:d≠TI) (no:d≠TO) (m1:d∉f1) (m2:d∉f2):ZRun z TI TO i1 i2 S1 S2 k h':=by
 obtain ⟨way,ti,⟨a,b,to⟩,s1,s2⟩:=r
 refine ⟨?_,e _ _ ni.symm ti,⟨a,b,e _ _ no.symm to⟩,D1.frame _ _ _ s1 fun c hc o q=>e c o (fun z=>m1 (z▸hc)) q,D2.frame _ _ _ s2 fun c hc o q=>e c o (fun z=>m2 (z▸hc)) q⟩
 rcases way with hz | ⟨T,oT,bb,hz,hT,n1,n2⟩
 ·exact .fresh (e _ _ nz.symm hz)
 ·by_cases q:T=d
  ·subst q
   obtain ⟨o,ho⟩:=hd
   exact .busy T o bb (e _ _ nz.symm hz) ho n1 n2
  ·exact .busy T oT bb (e _ _ nz.symm hz) (e _ _ q hT) n1 n2
structure ZAll (prog:Program) (w:World) (z TI TO i1 i2 d:Addr) (f1 f2:List Addr) (n1 n2:Nat) (P1 P2:Nat→Value→Prop) (S1 S2:Nat→Heap→Prop) (ks:List (List Key × Addr × Value)) (h0:Heap):Prop where
 D1:∀ A:Around,A.handled=none→Draws prog w A i1 f1 n1 P1 S1
 D2:∀ A:Around,A.handled=none→Draws prog w A i2 f2 n2 P2 S2
 ap:ZAp z TI TO i1 i2 f1 f2
 m1:i1∈f1
 m2:i2∈f2
 n:ks.length=min n1 n2
 p1:∀ i x q,P1 i x→ks[i]?=some q→x=.ref q.2.1
 p2:∀ i y q,P2 i y→ks[i]?=some q→y=q.2.2
 key:∀ q∈ks,(TK2 prog w).is h0 q.1 q.2.1
 fr:∀ c o,h0.get? c=some o→c≠z∧c≠TO∧c≠i1∧c≠i2∧c≠d
 nz:d≠z
 ni:d≠TI
 no:d≠TO
 d1:d∉f1
 d2:d∉f2
end
open PySem PySem.Spec PyProof.Rows
noncomputable def KRw (H:Hp):List (List Key)→List V→Prop:=Paired fun k v=>∃ a,v=.ref a∧H a=some (.tup (k.map kV))
noncomputable def foldP (kvs ps:List (List Key × V)):List (List Key × V):=ps.foldl (fun acc q=>putK acc q.1 q.2) kvs
noncomputable def stoF (zs ks:List (List Key × Addr × Value)):List (List Key × Addr × Value):=ks.foldl (fun a q=>storedH a q.1 q.2.1 q.2.2) zs
inductive KFold (H:Hp) (kvs:List (List Key × V)) (zs:List (List Key × Addr × Value)) (ps:List (List Key × V)) (u1 u2:List Value):Prop
 | mk (ks:List (List Key × Addr × Value)) (r:KT H (foldP kvs ps) (stoF zs ks)) (n:ks.length=min u1.length u2.length) (p1:∀ (i:Nat) (x:Value) (q:List Key × Addr × Value),u1[i]?=some x→ks[i]?=some q→x=.ref q.2.1) (p2:∀ (i:Nat) (y:Value) (q:List Key × Addr × Value),u2[i]?=some y→ks[i]?=some q→y=q.2.2) (k:∀ q∈ks,H q.2.1=some (.tup (q.1.map kV)))
section
variable {X:Cx}{a b:Expr}{ta:TA}{p p2 pos pos2:Pos}
theorem KRw.length {H:Hp}{kks:List (List Key)}{xs:List V} (r:KRw H kks xs):kks.length=xs.length:=Paired.length r
end
open PySem PySem.Spec PyProof.Rows
inductive FzD (X:Cx) (H:Hp) (h:Heap) (a:Addr) (o:Obj) (kvs:List (List Key × V)):Prop
 | mk (es:Array DictEntry) (ep:Nat) (xs:List (List Key × Addr × Value)) (g:h.get? a=some o) (c:o.cls=.type "dict") (d:o.data=.dict es ep) (r:KT H kvs xs) (e:es.toList=xs.map (entryOfKey (tupleKind (mixKind X.prog X.w)))) (lo:(a == sysModules)=false) (z:kvs.length≤sizeLine)
open PySem PySem.Spec PyProof.Rows
def Rs (xs:Array Nat):Prop:=xs.toList.Pairwise (·<·)
theorem Rs.get {xs:Array Nat} (h:Rs xs) {i j a b:Nat} (ha:xs[i]?=some a) (hb:xs[j]?=some b) (l:i<j):a<b:=by
 rw [← Array.getElem?_toList] at ha hb
 obtain ⟨hi,rfl⟩:=List.getElem?_eq_some_iff.mp ha
 obtain ⟨hj,rfl⟩:=List.getElem?_eq_some_iff.mp hb
 exact List.pairwise_iff_getElem.mp h i j hi hj l
def Bl (xs:Array Nat) (j r:Nat):Prop:=r≤xs.size∧(∀ i a,xs[i]?=some a→i<r→a<j)∧∀ i a,xs[i]?=some a→r≤i→j≤a
theorem below_go {xs:Array Nat} (h:Rs xs) (j:Nat):∀ (n lo hi:Nat),hi - lo≤n→lo≤hi→hi≤xs.size→(∀ i a,xs[i]?=some a→i<lo→a<j)→(∀ i a,xs[i]?=some a→hi≤i→j≤a)→Bl xs j (SetTable.below.go xs j n lo hi)
 | 0,lo,hi,h1,h2,h3,h4,h5=>by
  have e:lo=hi:=by omega
  subst e
  exact ⟨h3,h4,h5⟩
 | n+1,lo,hi,h1,h2,h3,h4,h5=>by
  unfold SetTable.below.go
  split
  ·rename_i hl
   have hm:(lo+hi) / 2<xs.size:=by omega
   have hx:xs[(lo+hi) / 2]?=some xs[(lo+hi) / 2]:=Array.getElem?_eq_getElem hm
   have hg:xs.getD ((lo+hi) / 2) j=xs[(lo+hi) / 2]:=by simp [Array.getD,hm]
   simp only [hg]
   split
   ·rename_i hs
    refine below_go h j n _ hi (by omega) (by omega) h3 (fun i a ha hi2=>?_) h5
    by_cases e:i=(lo+hi) / 2
    ·subst e
     rw [hx] at ha
     cases ha
     exact hs
    ·exact Nat.lt_trans (h.get ha hx (by omega)) hs
   ·rename_i hs
    refine below_go h j n lo _ (by omega) (by omega) (by omega) h4 (fun i a ha hi2=>?_)
    by_cases e:i=(lo+hi) / 2
    ·subst e
     rw [hx] at ha
     cases ha
     omega
    ·have:=h.get hx ha (by omega)
     omega
  ·have e:lo=hi:=by omega
   subst e
   exact ⟨h3,h4,h5⟩
theorem below_bl {xs:Array Nat} (h:Rs xs) (j:Nat):Bl xs j (SetTable.below xs j):=by
 refine below_go h j _ 0 xs.size (by omega) (by omega) (Nat.le_refl _) (fun i a _ l=>absurd l (Nat.not_lt_zero _)) fun i a ha l=>?_
 have:i<xs.size:=by
  rcases Nat.lt_or_ge i xs.size with g | g
  ·exact g
  ·rw [Array.getElem?_eq_none g] at ha; cases ha
 omega
theorem Rs.insert {xs:Array Nat} (h:Rs xs) {j:Nat} (hn:xs[SetTable.below xs j]?≠some j):Rs (SetTable.insertAt xs (SetTable.below xs j) j):=by
 obtain ⟨b1,b2,b3⟩:=below_bl h j
 unfold Rs
 rw [SetTable.toList_insertAt]
 have e:xs.toList=xs.toList.take (SetTable.below xs j)++xs.toList.drop (SetTable.below xs j):=(List.take_append_drop _ _).symm
 have h':=h
 unfold Rs at h'
 rw [e,List.pairwise_append] at h'
 obtain ⟨p1,p2,p3⟩:=h'
 have q1:∀ a∈xs.toList.take (SetTable.below xs j),a<j:=fun a ha=>by
  obtain ⟨i,hi,rfl⟩:=List.getElem_of_mem ha
  rw [List.length_take] at hi
  refine b2 i _ ?_ (by omega)
  rw [← Array.getElem?_toList,List.getElem_take]
  exact List.getElem?_eq_getElem _
 have q2:∀ a∈xs.toList.drop (SetTable.below xs j),j<a:=fun a ha=>by
  obtain ⟨i,hi,rfl⟩:=List.getElem_of_mem ha
  rw [List.length_drop] at hi
  have g:xs[SetTable.below xs j+i]?=some ((xs.toList.drop (SetTable.below xs j))[i]):=by
   rw [← Array.getElem?_toList,List.getElem_drop]
   exact List.getElem?_eq_getElem _
  have l:=b3 _ _ g (by omega)
  rcases Nat.lt_or_eq_of_le l with l | l
  ·exact l
  ·exfalso
   by_cases e0:i=0
   ·subst e0
    rw [← l] at g
    exact hn g
   ·have hlt:SetTable.below xs j<xs.size:=by rw [Array.length_toList] at hi; omega
    have hr:xs[SetTable.below xs j]?=some xs[SetTable.below xs j]:=Array.getElem?_eq_getElem hlt
    have:=h.get hr g (by omega)
    have:=b3 _ _ hr (Nat.le_refl _)
    omega
 rw [List.pairwise_append,List.pairwise_cons]
 refine ⟨p1,⟨q2,p2⟩,fun a ha b hb=>?_⟩
 rcases List.mem_cons.mp hb with rfl | hb
 ·exact q1 a ha
 ·exact p3 a ha b hb
theorem slot_free {t:SetTable}{j:Nat} (h:(∃ i,t.slot j=.live i)→False):t.place[SetTable.below t.place j]?≠some j:=by
 intro e
 refine h ⟨SetTable.below t.place j,?_⟩
 unfold SetTable.slot
 simp only [e,beq_self_eq_true,if_true]
theorem probe_go {t:SetTable}{f:Nat→Int}{h:Int}:∀ (n:Nat) (p:SetTable.Probe) {j:Nat}{d:Option Nat},(∀ x,p.dummy=some x→t.place[SetTable.below t.place x]?≠some x)→SetTable.probe.go t f h n p=some (.empty j d)→t.place[SetTable.below t.place (d.getD j)]?≠some (d.getD j)
 | 0,p,j,d,hp,e=>by cases e
 | n+1,p,j,d,hp,e=>by
  unfold SetTable.probe.go at e
  have adv:∀ q:SetTable.Probe,(t.advance q).dummy=q.dummy:=fun q=>by
   unfold SetTable.advance
   split <;> rfl
  split at e
  ·rename_i hs
   cases e
   cases hd:p.dummy with
   | none=>exact slot_free fun ⟨i,hi⟩=>by rw [show (none:Option Nat).getD p.j=p.j from rfl,hs] at hi; cases hi
   | some x=>exact hp x hd
  ·rename_i hs
   refine probe_go n _ (fun x hx=>?_) e
   rw [adv] at hx
   cases hx
   exact slot_free fun ⟨i,hi⟩=>by rw [hs] at hi; cases hi
  ·split at e
   ·cases e
   ·exact probe_go n _ (fun x hx=>hp x (by rw [adv] at hx; exact hx)) e
theorem freeSlot_free {t:SetTable}{h:Int}{j:Nat}{b:Bool} (e:t.freeSlot h=some (j,b)):t.place[SetTable.below t.place j]?≠some j:=by
 unfold SetTable.freeSlot at e
 split at e
 ·rename_i j' d he
  cases e
  exact probe_go _ _ (fun x hx=>by simp [SetTable.probeStart] at hx) he
 ·cases e
structure TOk (bt:Bool) (t:SetTable):Prop where
 led:t.led=!bt
 up:t.plain=true→Rs t.place
theorem TOk.fresh (bt:Bool):TOk bt (.fresh 0 0 (!bt)):=⟨rfl,fun _=>by simp [SetTable.fresh,Rs]⟩
theorem TOk.standIn {bt:Bool}{t:SetTable} (h:TOk bt t) (n:Nat):TOk bt (t.standIn n):=⟨h.led,fun e=>by cases e⟩
theorem TOk.layNew {bt:Bool}{t:SetTable} (k:TOk bt t) (es:Array (Int × Value)) (h:Int) (x:Value):TOk bt (layNew t es h x).2.1:=by
 unfold PySem.layNew
 split
 ·rename_i j b e
  show TOk bt (SetTable.orStandIn (t.put j).1 _)
  have k1:TOk bt (t.put j).1:=⟨k.led,fun p=>(k.up p).insert (freeSlot_free e)⟩
  unfold SetTable.orStandIn
  split
  ·exact k1
  ·exact k1.standIn _
 ·exact k.standIn _
theorem laid_up {m f v:Nat}{l p:Bool}{hs:Array Int}{t:SetTable}{o:Array Nat} (e:SetTable.laid m f v l p hs=some (t,o)):t.led=l∧t.plain=p∧Rs t.place:=by
 unfold SetTable.laid at e
 obtain ⟨ow,_,e⟩:=Option.bind_eq_some_iff.mp e
 cases e
 refine ⟨rfl,rfl,?_⟩
 have e2:∀ ks:List Nat,(ks.filterMap fun j=>(ow.getD j none).map (j,·)).map (·.1)=ks.filter fun j=>(ow.getD j none).isSome:=by
  intro ks
  induction ks with
  | nil=>rfl
  | cons a ks ih =>
   cases h:ow.getD a none with
   | none=>rw [List.filterMap_cons_none (by rw [h]; rfl),List.filter_cons_of_neg (by rw [h]; exact Bool.false_ne_true),ih]
   | some b=>rw [List.filterMap_cons_some (b:=(a,b)) (by rw [h]; rfl),List.filter_cons_of_pos (by rw [h]; rfl),List.map_cons,ih]
 show List.Pairwise (·<·) (((List.range (m+1)).filterMap fun j=>(ow.getD j none).map (j,·)).map (·.1))
 rw [e2]
 exact List.Pairwise.filter _ List.pairwise_lt_range
theorem TOk.relayAll {bt:Bool}{t:SetTable} (k:TOk bt t) (es:Array (Int × Value)) (n:Nat):TOk bt (relayAll t es n).2.1:=by
 unfold PySem.relayAll
 split
 ·rename_i t' o e
  obtain ⟨h1,h2,h3⟩:=laid_up e
  dsimp only
  split
  ·exact ⟨h1.trans k.led,fun _=>h3⟩
  ·exact k.standIn _
 ·exact k.standIn _
open PySem PySem.Spec PyProof.Rows
noncomputable def iV:Value→Int
 | .int z _=>z
 | _=>0
noncomputable def iE (e:Int × Value):Int:=iV e.2
def EI (es:List (Int × Value)):Prop:=∀ e∈es,∃ z tk,e=(hashInt z,Value.int z tk)
theorem EI.elems {prog:Program}{w:World}{es:List (Int × Value)} (h:EI es):ElemsOf (intKind prog w) es:=fun e he=>by
 obtain ⟨z,tk,rfl⟩:=h e he
 exact ⟨⟨z,intKind_is prog w z tk,rfl⟩,rfl⟩
theorem EI.perm {a b:List (Int × Value)} (h:EI a) (p:b.Perm a):EI b:=fun e he=>h e (p.mem_iff.mp he)
inductive StI (bt:Bool) (h:Heap) (a:Addr) (zs:List Int):Prop
 | mk (o:Obj) (es:Array (Int × Value)) (ep:Nat) (t:SetTable) (g:h.get? a=some o) (x:o.ExactSet) (d:o.data=.set es ep t) (k:TOk bt t) (f:t.fits es.size=true) (b:es.size<scanBound) (e:EI es.toList) (p:(es.toList.map iE).Perm zs)
theorem StI.at {bt:Bool}{h h':Heap}{a:Addr}{zs:List Int} (S:StI bt h a zs) (k:∀ o,h.get? a=some o→h'.get? a=some o):StI bt h' a zs:=by
 obtain ⟨o,es,ep,t,g,r⟩:=S
 exact ⟨o,es,ep,t,k o g,‹_›,‹_›,‹_›,‹_›,‹_›,‹_›,‹_›⟩
theorem StI.stored {bt:Bool}{h:Heap}{a:Addr}{o:Obj}{es es':Array (Int × Value)}{ep:Nat}{t t':SetTable}{zs:List Int} (g:h.get? a=some o) (x:o.ExactSet) (d:o.data=.set es ep t)
  (k:TOk bt t') (f:t'.fits es'.size=true) (b:es'.size<scanBound) (e:EI es'.toList) (p:(es'.toList.map iE).Perm zs) :
  (h.update a (Obj.putSet es' t')).get? a=some { o with data:=.set es' (ep+1) t' }∧StI bt (h.update a (Obj.putSet es' t')) a zs:=by
 have hg:(h.update a (Obj.putSet es' t')).get? a=some { o with data:=.set es' (ep+1) t' }:=by
  have:=Heap.get?_update_self (Obj.putSet es' t') g (by rw [putSet_of es' t' d]; rfl)
  rw [putSet_of es' t' d] at this
  exact this
 exact ⟨hg,_,es',ep+1,t',hg,x,rfl,k,f,b,e,p⟩
noncomputable def one (zs:List Int) (z:Int):List Int:=if z∈zs then zs else z::zs
section
variable {prog:Program}{w:World}{A:Around}{E:Value→Shared→Prop}{s:Shared}{bt:Bool}{a:Addr}{zs:List Int}
theorem add_int {z:Int}{tk:Tok}{Q:Bool→Shared→Prop} (S:StI bt s.heap a zs) (room:zs.length+1<scanBound)
  (h:∀ (b:Bool) (h':Heap),Heap.SameBut a s.heap h'→StI bt h' a (one zs z)→Q b { s with heap:=h' }) :
  wpAny (model prog w) A (setAddHashed a (.int z tk) (hashInt z)) Q E s:=by
 obtain ⟨o,es,ep,t,g,x,d,k,f,b,e,p⟩:=S
 have hl:es.size=zs.length:=by rw [← p.length_eq,List.length_map,Array.length_toList]
 unfold setAddHashed setAddHashedIn
 refine wpAny_holding (wpAny_bind (wpAny_setState_of g d f ?_))
 dsimp only
 rw [byScan_of (knd:=intKind prog w) rfl b e.elems,if_pos rfl]
 unfold setAddByScan
 refine wpAny_bind (wpAny_bind (wpAny_rule (wpAny_bind (wpAny_setScan_of (knd:=intKind prog w) (k:=z) (intKind_is prog w z tk) g d f e.elems ?_))))
 cases hr:es.toList.findIdx? (fun q=>(intKind prog w).is z q.2) with
 | some j =>
  obtain ⟨hj,hp,_⟩:=List.findIdx?_eq_some_iff_getElem.mp hr
  have hm:z∈zs:=by
   obtain ⟨z',tk',e1⟩:=e _ (List.getElem_mem hj)
   rw [e1] at hp
   have hz:z'=z:=by simpa [intKind,Value.isInt] using hp
   rw [← hz]
   refine p.mem_iff.mp (List.mem_map.mpr ⟨_,List.getElem_mem hj,?_⟩)
   rw [e1]
   rfl
  refine wpAny_pure (wpAny_pure ?_)
  have:=h false s.heap (Heap.SameBut.refl ..) ⟨o,es,ep,t,g,x,d,k,f,b,e,by rw [one,if_pos hm]; exact p⟩
  cases s
  exact this
 | none =>
  have hm:z∉zs:=fun hz=>by
   obtain ⟨q,hq,e2⟩:=List.mem_map.mp (p.mem_iff.mpr hz)
   have:=List.findIdx?_eq_none_iff.mp hr q hq
   obtain ⟨z',tk',e1⟩:=e q hq
   rw [e1] at this e2
   have hz':z'=z:=e2
   subst hz'
   exact absurd (intKind_is prog w z' tk') (by rw [this]; exact Bool.false_ne_true)
  have p1:=layNew_perm t es (hashInt z) (.int z tk)
  have f1:=layNew_fits t es (hashInt z) (.int z tk)
  have k1:=k.layNew es (hashInt z) (.int z tk)
  dsimp only
  generalize hL:layNew t es (hashInt z) (.int z tk)=L at p1 f1 k1 ⊢
  obtain ⟨es1,t1,wd,gv⟩:=L
  dsimp only at p1 f1 k1 ⊢
  have e1:EI es1.toList:=EI.perm (fun q hq=>by
   rw [Array.toList_push] at hq
   rcases List.mem_append.mp hq with hq | hq
   ·exact e q hq
   ·exact ⟨z,tk,List.mem_singleton.mp hq⟩) p1
  have q1:(es1.toList.map iE).Perm (one zs z):=by
   refine (p1.map iE).trans ?_
   rw [Array.toList_push,List.map_append,one,if_neg hm]
   exact (List.Perm.append_right _ p).trans (List.perm_append_singleton z zs)
  have z1:es1.size=es.size+1:=by rw [← Array.length_toList,p1.length_eq,Array.length_toList,Array.size_push]
  have b1:es1.size<scanBound:=by omega
  have tail:∀ (t2:SetTable) (G:Bool→Sem Unit) (hG:∀ (b:Bool) (s₁:Shared) (Q':Unit→Shared→Prop),Q' () s₁→wpAny (model prog w) A (G b) Q' E s₁),TOk bt t2→t2.fits es1.size=true →
    wpAny (model prog w) A (do
     storeSet a es1 t2
     if (!wd&&t2.tooFull)=true then do
       G (relayAll t2 es1 (SetTable.grown es1.size)).2.2
       storeSet a (relayAll t2 es1 (SetTable.grown es1.size)).1 (relayAll t2 es1 (SetTable.grown es1.size)).2.1
       pure (some true)
      else pure (some true)) (fun r s'=>wpAny (model prog w) A (match r with | some added=>pure added | none=>setAddHashedIn a (.int z tk) (hashInt z) 99999) Q E s') E s:=by
   intro t2 G hG k2 f2
   refine wpAny_bind (wpAny_storeSet_of g d ?_ (fits_of_scanBound b1))
   obtain ⟨g3,S3⟩:=StI.stored g x d k2 f2 b1 e1 q1
   split
   ·have p4:=relayAll_perm t2 es1 (SetTable.grown es1.size)
    have f4:=relayAll_fits t2 es1 (SetTable.grown es1.size)
    have k4:=k2.relayAll es1 (SetTable.grown es1.size)
    generalize relayAll t2 es1 (SetTable.grown es1.size)=M at p4 f4 k4 ⊢
    obtain ⟨es2,t3,gv2⟩:=M
    dsimp only at p4 f4 k4 ⊢
    have z4:es2.size=es1.size:=by rw [← Array.length_toList,p4.length_eq,Array.length_toList]
    have b4:es2.size<scanBound:=by omega
    refine wpAny_bind (hG _ _ _ (wpAny_bind (wpAny_storeSet_of g3 rfl ?_ (fits_of_scanBound b4))))
    refine wpAny_pure (wpAny_pure (h true _ ((Heap.SameBut.update s.heap a _).trans (Heap.SameBut.update _ a _)) ?_))
    exact (StI.stored g3 x rfl k4 f4 b4 (e1.perm p4) ((p4.map iE).trans q1)).2
   ·exact wpAny_pure (wpAny_pure (h true _ (Heap.SameBut.update s.heap a _) S3))
  have hgw:∀ (b:Bool) (s₁:Shared) (Q':Unit→Shared→Prop),Q' () s₁→wpAny (model prog w) A (match b with | true=>rule "set.scan.the-table-gave-way" | false=>pure ()) Q' E s₁ :=
   fun b s₁ Q' hq=>by cases b <;> first | exact wpAny_pure hq | exact wpAny_rule hq
  refine wpAny_bind (hgw _ _ _ ?_)
  split
  ·refine wpAny_bind ?_
   rw [hashByValue_scannable 8 rfl]
   refine wpAny_pure ?_
   exact tail _ _ hgw k1 f1
  ·refine wpAny_bind (wpAny_pure ?_)
   exact tail _ _ hgw k1 f1
end
open PySem PySem.Spec PyProof.Rows
def IsSI (h:Heap) (it S:Addr) (f:Value) (i n ep:Nat):Prop:=∃ o,h.get? it=some o∧o.cls=.type "set_iterator"∧o.data=.fields #[f,.int (i:Int) 0,.ref S,.int (n:Int) 0,.int (ep:Int) 0]
section
variable {prog:Program}{w:World}{A:Around}{E:Value→Shared→Prop}{s:Shared}{it S:Addr}{f:Value}{i n ep:Nat}
theorem IsSI.ty (h:IsSI s.heap it S f i n ep):s.TypeIs (.ref it) "set_iterator":=let ⟨o,g,c,_⟩:=h; ⟨o,g,c⟩
theorem IsSI.at {h h':Heap} (x:IsSI h it S f i n ep) (e:∀ o,h.get? it=some o→h'.get? it=some o):IsSI h' it S f i n ep:=let ⟨o,g,r⟩:=x; ⟨o,e _ g,r⟩
end
open PySem PySem.Spec PyProof.Rows
section
variable {prog:Program}{w:World}{A:Around}{E:Value→Shared→Prop}{s:Shared}{S I T:Addr}{ep:Nat}{es:Array (Int × Value)}{t:SetTable}{o:Obj}{vs:List Value}
inductive SIt (prog:Program) (w:World) (A:Around) (h0:Heap) (S I:Addr) (h':Heap) (n:Nat) (vs:List Value):Prop
 | mk (fp:List Addr) (St:Nat→Heap→Prop) (vals:List Value) (p:vals.Perm vs) (W:Walks prog w A I fp [I] n (fun i v=>vals[i]?=some v) St) (st:St 0 h') (f:∀ b∈fp,b=S∨h0.objs.size≤b) (i:h0.objs.size≤I)
end
open PySem PySem.Spec PyProof.Rows
inductive D where
 | non | bl (b:Bool) | int (i:Int) | str (x:Str) | ty (n:String) | tup (xs:List D) | lst (n:Nat) | dct (n:Nat) | rol (xs:List D)
inductive O where
 | lst (xs:List D) | dk (kvs:List (Key × D)) | dt (kvs:List (List Key × D))
noncomputable abbrev Store:=List O
noncomputable abbrev Env1:=List (Option D)
def SqF (K:W.Frag) (H:Hp) (a:Addr) (xs:List V):Prop:=(∃ o,H a=some (.frz o (.lst xs))) ∨
  ∃ (o:Obj) (its:Array Value) (n:Nat),K.lookup a=some o∧o.cls=.type "list"∧o.dict=none∧o.data=.seq its n∧its.size≤sizeLine∧Vals xs its.toList
theorem SqF.sq {K:W.Frag}{H:Hp}{a:Addr}{xs:List V} (h:SqF K H a xs):SqL K H a xs:=by
 rcases h with ⟨o,h⟩ | h
 ·exact .inl (.inr ⟨o,h⟩)
 ·exact .inr h
structure TF (K:W.Frag) (H H':Hp):Prop where
 t:TK K H H'
 f:∀ a xs,SqF K H a xs→SqF K H' a xs
 u:∀ a xs,H a=some (.tup xs)→H' a=some (.tup xs)
theorem TF.refl (K:W.Frag) (H:Hp):TF K H H:=⟨TK.refl K H,fun _ _ h=>h,fun _ _ h=>h⟩
theorem TF.trans {K:W.Frag}{H H1 H2:Hp} (a:TF K H H1) (b:TF K H1 H2):TF K H H2:=⟨a.t.trans b.t,fun p xs h=>b.f p xs (a.f p xs h),fun p xs h=>b.u p xs (a.u p xs h)⟩
theorem tf_of {K:W.Frag}{H H':Hp}{p:Addr} (h:∀ q o,q≠p→H q=some o→H' q=some o) (nt:∀ xs,H p≠some (.tup xs)) (nf:∀ x y,H p≠some (.frz x y)):TF K H H':=by
 refine ⟨fun q ys e=>?_,fun q ys e=>?_,fun q ys e=>h _ _ (fun z=>nt _ (z▸e)) e⟩
 ·rcases e with (e | ⟨w,e⟩) | e
  ·exact .inl (.inl (h _ _ (fun z=>nt _ (z▸e)) e))
  ·exact .inl (.inr ⟨w,h _ _ (fun z=>nf _ _ (z▸e)) e⟩)
  ·exact .inr e
 ·rcases e with ⟨w,e⟩ | e
  ·exact .inl ⟨w,h _ _ (fun z=>nf _ _ (z▸e)) e⟩
  ·exact .inr e
theorem tf_upd {K:W.Frag}{H:Hp}{p:Addr}{u o:HO} (e:H p=some u) (nt:∀ xs,u≠.tup xs) (nf:∀ x y,u≠.frz x y):TF K H (upd H p o) :=
 tf_of (p:=p) (fun q v hq h=>by rw [upd_ne hq]; exact h) (fun xs h=>by rw [e] at h; exact nt xs (Option.some.inj h)) (fun x y h=>by rw [e] at h; exact nf x y (Option.some.inj h))
theorem tf_lst {K:W.Frag}{H:Hp}{p:Addr}{xs:List V}{o:HO} (e:H p=some (.lst xs)):TF K H (upd H p o):=tf_upd e (fun _ z=>by cases z) (fun _ _ z=>by cases z)
theorem tf_same {K:W.Frag}{H H':Hp} (h:Same H H'):TF K H H':=⟨fun p xs e=>h.tup e,fun q ys e=>by
 rcases e with ⟨w,e⟩ | e
 ·exact .inl ⟨w,h _ _ e⟩
 ·exact .inr e,fun _ _ e=>h _ _ e⟩
mutual
noncomputable def RV (K:W.Frag) (H:Hp) (μ:List Addr):D→V→Prop
 | .non,v=>v=.non
 | .bl b,v=>v=.bl b
 | .int i,v=>v=.int i
 | .str x,v=>v=.str x
 | .ty n,v=>v=.ty n
 | .tup xs,v=>∃ p vs,v=.ref p∧H p=some (.tup vs)∧RVs K H μ xs vs
 | .lst n,v=>∃ a,v=.ref a∧μ[n]?=some a
 | .dct n,v=>∃ a,v=.ref a∧μ[n]?=some a
 | .rol xs,v=>∃ p vs,v=.ref p∧SqF K H p vs∧RVs K H μ xs vs
noncomputable def RVs (K:W.Frag) (H:Hp) (μ:List Addr):List D→List V→Prop
 | [],vs=>vs=[]
 | d::ds,vs=>∃ v ws,vs=v::ws∧RV K H μ d v∧RVs K H μ ds ws
end
def RKs {κ:Type} (K:W.Frag) (H:Hp) (μ:List Addr) (kvs:List (κ × D)) (ws:List (κ × V)):Prop:=kvs.map (·.1)=ws.map (·.1)∧RVs K H μ (kvs.map (·.2)) (ws.map (·.2))
noncomputable def OR (K:W.Frag) (H:Hp) (μ:List Addr) (a:Addr):O→Prop
 | .lst xs=>∃ vs,H a=some (.lst vs)∧RVs K H μ xs vs
 | .dk kvs=>∃ ws,H a=some (.dK ws)∧RKs K H μ kvs ws
 | .dt kvs=>∃ ws,H a=some (.dT ws)∧RKs K H μ kvs ws
structure SR (K:W.Frag) (μ:List Addr) (S:Store) (H:Hp):Prop where
 len:μ.length=S.length
 nd:μ.Nodup
 obj:∀ (n:Nat) (a:Addr) (o:O),μ[n]?=some a→S[n]?=some o→OR K H μ a o
structure Step (K:W.Frag) (μ μ':List Addr) (H H':Hp):Prop where
 pre:∃ ν,μ'=μ++ν∧∀ b∈ν,H b=none
 fr:∀ b o,b∉μ→H b=some o→H' b=some o
 tk:TF K H H'
section
variable {K:W.Frag}{H H' H1 H2:Hp}{μ μ' μ1 μ2:List Addr}{S S':Store}
mutual
theorem RV.up (tk:TF K H H') (pre:∃ ν,μ'=μ++ν):∀ (d:D) (v:V),RV K H μ d v→RV K H' μ' d v
 | .non,v,h=>by simpa [RV] using h
 | .bl b,v,h=>by simpa [RV] using h
 | .int i,v,h=>by simpa [RV] using h
 | .str x,v,h=>by simpa [RV] using h
 | .ty n,v,h=>by simpa [RV] using h
 | .tup xs,v,h=>by
  unfold RV at h ⊢
  obtain ⟨p,vs,e,q,r⟩:=h
  exact ⟨p,vs,e,tk.u p vs q,RVs.up tk pre xs vs r⟩
 | .lst n,v,h=>by
  unfold RV at h ⊢
  obtain ⟨a,e,q⟩:=h
  obtain ⟨ν,rfl⟩:=pre
  exact ⟨a,e,by rw [List.getElem?_append_left (List.getElem?_eq_some_iff.mp q).1]; exact q⟩
 | .dct n,v,h=>by
  unfold RV at h ⊢
  obtain ⟨a,e,q⟩:=h
  obtain ⟨ν,rfl⟩:=pre
  exact ⟨a,e,by rw [List.getElem?_append_left (List.getElem?_eq_some_iff.mp q).1]; exact q⟩
 | .rol xs,v,h=>by
  unfold RV at h ⊢
  obtain ⟨p,vs,e,q,r⟩:=h
  exact ⟨p,vs,e,tk.f p vs q,RVs.up tk pre xs vs r⟩
theorem RVs.up (tk:TF K H H') (pre:∃ ν,μ'=μ++ν):∀ (ds:List D) (vs:List V),RVs K H μ ds vs→RVs K H' μ' ds vs
 | [],vs,h=>by simpa [RVs] using h
 | d::ds,vs,h=>by
  unfold RVs at h ⊢
  obtain ⟨v,ws,e,r,q⟩:=h
  exact ⟨v,ws,e,RV.up tk pre d v r,RVs.up tk pre ds ws q⟩
end
theorem RVs.len:∀ {ds:List D}{vs:List V},RVs K H μ ds vs→ds.length=vs.length
 | [],vs,h=>by unfold RVs at h; subst h; rfl
 | d::ds,vs,h=>by
  unfold RVs at h
  obtain ⟨v,ws,rfl,_,q⟩:=h
  rw [List.length_cons,List.length_cons,RVs.len q]
theorem RVs.nil:RVs K H μ [] []:=by unfold RVs; rfl
theorem RVs.cons {d:D}{v:V}{ds:List D}{vs:List V} (h:RV K H μ d v) (t:RVs K H μ ds vs):RVs K H μ (d::ds) (v::vs):=by
 unfold RVs; exact ⟨v,vs,rfl,h,t⟩
theorem RVs.get:∀ {ds:List D}{vs:List V}{i:Nat}{d:D},RVs K H μ ds vs→ds[i]?=some d→∃ v,vs[i]?=some v∧RV K H μ d v
 | [],vs,i,d,h,e=>by simp at e
 | x::ds,vs,0,d,h,e=>by
  unfold RVs at h
  obtain ⟨v,ws,rfl,r,q⟩:=h
  simp at e; subst e
  exact ⟨v,rfl,r⟩
 | x::ds,vs,i+1,d,h,e=>by
  unfold RVs at h
  obtain ⟨v,ws,rfl,r,q⟩:=h
  obtain ⟨u,e1,e2⟩:=RVs.get (i:=i) (d:=d) q (by simpa using e)
  exact ⟨u,by simpa using e1,e2⟩
theorem RVs.append:∀ {ds es:List D}{vs us:List V},RVs K H μ ds vs→RVs K H μ es us→RVs K H μ (ds++es) (vs++us)
 | [],es,vs,us,h,g=>by unfold RVs at h; subst h; exact g
 | d::ds,es,vs,us,h,g=>by
  unfold RVs at h
  obtain ⟨v,ws,rfl,r,q⟩:=h
  exact .cons r (RVs.append q g)
theorem RVs.take:∀ {ds:List D}{vs:List V} (n:Nat),RVs K H μ ds vs→RVs K H μ (ds.take n) (vs.take n)
 | _,_,0,_=>by simp; exact .nil
 | [],vs,n+1,h=>by unfold RVs at h; subst h; exact .nil
 | d::ds,vs,n+1,h=>by
  unfold RVs at h
  obtain ⟨v,ws,rfl,r,q⟩:=h
  exact .cons r (RVs.take n q)
theorem RVs.drop:∀ {ds:List D}{vs:List V} (n:Nat),RVs K H μ ds vs→RVs K H μ (ds.drop n) (vs.drop n)
 | _,_,0,h=>by simpa using h
 | [],vs,n+1,h=>by unfold RVs at h; subst h; exact .nil
 | d::ds,vs,n+1,h=>by
  unfold RVs at h
  obtain ⟨v,ws,rfl,r,q⟩:=h
  exact RVs.drop n q
theorem RVs.set {d:D}{v:V} (g:RV K H μ d v):∀ {ds:List D}{vs:List V} (n:Nat),RVs K H μ ds vs→RVs K H μ (ds.set n d) (vs.set n v)
 | [],vs,n,h=>by unfold RVs at h; subst h; exact .nil
 | x::ds,vs,0,h=>by
  unfold RVs at h
  obtain ⟨u,ws,rfl,r,q⟩:=h
  exact .cons g q
 | x::ds,vs,n+1,h=>by
  unfold RVs at h
  obtain ⟨u,ws,rfl,r,q⟩:=h
  exact .cons r (RVs.set g n q)
theorem RVs.ints {ns:List Int}:RVs K H μ (ns.map D.int) (ns.map V.int):=by
 induction ns with
 | nil=>exact .nil
 | cons a r ih=>exact .cons (by unfold RV; rfl) ih
theorem RKs.up {κ:Type} (tk:TF K H H') (pre:∃ ν,μ'=μ++ν) {kvs:List (κ × D)}{ws:List (κ × V)} (h:RKs K H μ kvs ws):RKs K H' μ' kvs ws:=⟨h.1,RVs.up tk pre _ _ h.2⟩
theorem SR.isS (sr:SR K μ S H) {a:Addr} (h:a∈μ):∃ o,H a=some o:=by
 obtain ⟨n,hn⟩:=List.getElem?_of_mem h
 have hl:n<S.length:=by rw [← sr.len]; exact (List.getElem?_eq_some_iff.mp hn).1
 have q:=sr.obj n a S[n] hn (List.getElem?_eq_getElem hl)
 revert q
 generalize S[n]=o
 intro q
 cases o with
 | lst xs=>obtain ⟨vs,e,_⟩:=q; exact ⟨_,e⟩
 | dk kvs=>obtain ⟨vs,e,_⟩:=q; exact ⟨_,e⟩
 | dt kvs=>obtain ⟨vs,e,_⟩:=q; exact ⟨_,e⟩
theorem SR.out (sr:SR K μ S H) {a:Addr} (h:H a=none):a∉μ:=fun m=>by
 obtain ⟨o,e⟩:=sr.isS m
 rw [h] at e
 cases e
theorem Step.refl (K:W.Frag) (μ:List Addr) (H:Hp):Step K μ μ H H:=⟨⟨[],by simp,by simp⟩,fun _ _ _ h=>h,TF.refl K H⟩
theorem Step.mem (st:Step K μ μ' H H') {a:Addr} (h:a∈μ):a∈μ':=by
 obtain ⟨ν,rfl,_⟩:=st.pre
 exact List.mem_append_left _ h
theorem Step.ext (st:Step K μ μ' H H'):∃ ν,μ'=μ++ν:=let ⟨ν,e,_⟩:=st.pre; ⟨ν,e⟩
theorem Step.trans (a:Step K μ μ1 H H1) (b:Step K μ1 μ2 H1 H2) (nd:μ2.Nodup):Step K μ μ2 H H2:=by
 obtain ⟨ν,e,n1⟩:=a.pre
 obtain ⟨ν',e',n2⟩:=b.pre
 have nd':(μ++ν++ν').Nodup:=by rw [← e,← e']; exact nd
 refine ⟨⟨ν++ν',by rw [e',e,List.append_assoc],fun c hc=>?_⟩,fun c o hc h=>?_,a.tk.trans b.tk⟩
 ·rcases List.mem_append.mp hc with h | h
  ·exact n1 c h
  ·have hn:=n2 c h
   cases q:H c with
   | none=>rfl
   | some o =>
    have:c∉μ:=fun hm=>by
     have:=(List.nodup_append.mp nd').2.2 c (List.mem_append_left _ hm) c h
     exact this rfl
    rw [a.fr c o this q] at hn
    cases hn
 ·refine b.fr c o (fun hm=>?_) (a.fr c o hc h)
  rw [e] at hm
  rcases List.mem_append.mp hm with h' | h'
  ·exact hc h'
  ·rw [n1 c h'] at h; cases h
theorem OR.up (tk:TF K H H') (pre:∃ ν,μ'=μ++ν) {a:Addr} (e:H' a=H a):∀ {o:O},OR K H μ a o→OR K H' μ' a o
 | .lst xs,⟨vs,h,r⟩=>⟨vs,by rw [e]; exact h,RVs.up tk pre _ _ r⟩
 | .dk kvs,⟨ws,h,r⟩=>⟨ws,by rw [e]; exact h,r.up tk pre⟩
 | .dt kvs,⟨ws,h,r⟩=>⟨ws,by rw [e]; exact h,r.up tk pre⟩
theorem tk_new {p:Addr}{o:HO} (h:H p=none):TF K H (upd H p o):=tf_same (same_new h o)
theorem SR.other (sr:SR K μ S H) {p:Addr}{o:HO} (h:H p=none):SR K μ S (upd H p o)∧Step K μ μ H (upd H p o):=by
 have hp:=sr.out h
 refine ⟨⟨sr.len,sr.nd,fun n a o' e1 e2=>?_⟩,⟨⟨[],by simp,by simp⟩,fun b u hb e=>?_,tk_new h⟩⟩
 ·have hm:a∈μ:=List.mem_of_getElem? e1
  have ne:a≠p:=fun z=>hp (z▸hm)
  exact (sr.obj n a o' e1 e2).up (tk_new h) ⟨[],by simp⟩ (upd_ne ne)
 ·rw [upd_ne (ne_of_none e h)]; exact e
theorem SR.push (sr:SR K μ S H) {p:Addr}{o:HO}{o':O} (h:H p=none) (ho:OR K (upd H p o) (μ++[p]) p o'):SR K (μ++[p]) (S++[o']) (upd H p o)∧Step K μ (μ++[p]) H (upd H p o):=by
 have hp:=sr.out h
 refine ⟨⟨by simp [sr.len],?_,fun n a u e1 e2=>?_⟩,⟨⟨[p],rfl,fun b hb=>?_⟩,fun b u hb e=>?_,tk_new h⟩⟩
 ·rw [List.nodup_append]
  refine ⟨sr.nd,by simp,fun a ha b hb=>?_⟩
  simp at hb; subst hb
  exact fun z=>hp (z▸ha)
 ·by_cases hn:n<μ.length
  ·rw [List.getElem?_append_left hn] at e1
   rw [List.getElem?_append_left (by rw [← sr.len]; exact hn)] at e2
   have hm:a∈μ:=List.mem_of_getElem? e1
   have ne:a≠p:=fun z=>hp (z▸hm)
   exact (sr.obj n a u e1 e2).up (tk_new h) ⟨[p],rfl⟩ (upd_ne ne)
  ·rw [List.getElem?_append_right (by omega)] at e1
   rw [List.getElem?_append_right (by rw [← sr.len]; omega)] at e2
   have h1:n - μ.length=0:=by
    have:=(List.getElem?_eq_some_iff.mp e1).1
    simp at this; omega
   rw [h1] at e1
   rw [← sr.len,h1] at e2
   simp at e1 e2
   subst e1 e2
   exact ho
 ·simp at hb; subst hb; exact h
 ·rw [upd_ne (ne_of_none e h)]; exact e
theorem SR.put (sr:SR K μ S H) {n:Nat}{p:Addr}{o u:HO}{o':O} (hn:μ[n]?=some p) (hp:H p=some u) (nt:∀ xs,u≠.tup xs) (nf:∀ x y,u≠.frz x y) (ho:OR K (upd H p o) μ p o'):SR K μ (S.set n o') (upd H p o)∧Step K μ μ H (upd H p o):=by
 have tk:TF K H (upd H p o):=tf_upd hp nt nf
 have hmem:p∈μ:=List.mem_of_getElem? hn
 refine ⟨⟨by simp [sr.len],sr.nd,fun m a w e1 e2=>?_⟩,⟨⟨[],by simp,by simp⟩,fun b w hb e=>?_,tk⟩⟩
 ·by_cases hm:m=n
  ·subst hm
   rw [hn] at e1; cases e1
   have hl:m<S.length:=by rw [← sr.len]; exact (List.getElem?_eq_some_iff.mp hn).1
   rw [List.getElem?_set_self hl] at e2
   cases e2
   exact ho
  ·rw [List.getElem?_set_ne (fun z=>hm z.symm)] at e2
   have ne:a≠p:=fun z=>by
    subst z
    exact hm ((List.getElem?_inj (List.getElem?_eq_some_iff.mp e1).1 sr.nd).mp (e1.trans hn.symm))
   exact (sr.obj m a w e1 e2).up tk ⟨[],by simp⟩ (upd_ne ne)
 ·have ne:b≠p:=fun z=>hb (z▸hmem)
  rw [upd_ne ne]; exact e
end
open PySem PySem.Spec PyProof.Rows
inductive R (α:Type) where
 | bad | ok (a:α) (S:Store) | er (c:Str) (S:Store)
noncomputable abbrev M (α:Type):=Store→R α
noncomputable def bnd {α β:Type} (m:M α) (f:α→M β):M β:=fun S=>match m S with
 | .bad=>.bad
 | .er c S'=>.er c S'
 | .ok a S'=>f a S'
noncomputable def ret {α:Type} (a:α):M α:=fun S=>.ok a S
noncomputable def bad {α:Type}:M α:=fun _=>.bad
inductive BndOk {α β:Type} (m:M α) (f:α→M β) (S:Store) (b:β) (S2:Store):Prop
 | mk (a:α) (S1:Store) (e:m S=.ok a S1) (g:f a S1=.ok b S2)
theorem bnd_ok {α β:Type}{m:M α}{f:α→M β}{S S2:Store}{b:β} (h:bnd m f S=.ok b S2):BndOk m f S b S2:=by
 unfold bnd at h
 cases e:m S with
 | bad=>rw [e] at h; cases h
 | er c S'=>rw [e] at h; cases h
 | ok a S'=>rw [e] at h; exact ⟨a,S',e,h⟩
theorem ret_ok {α:Type}{a b:α}{S S':Store} (h:ret a S=.ok b S'):b=a∧S'=S:=by
 unfold ret at h; cases h; exact ⟨rfl,rfl⟩
noncomputable abbrev C:=Env1→M D
noncomputable abbrev CT:=Env1→M Bool
noncomputable abbrev CA:=Env1→M (List D)
def RE (K:W.Frag) (H:Hp) (μ:List Addr) (ρ:Env1) (σ:St):Prop:=ρ.length=σ.length∧∀ (i:Nat) (d:D),ρ[i]?=some (some d)→∃ v,σ[i]?=some (some v)∧RV K H μ d v
section
variable {K:W.Frag}{H H':Hp}{μ μ':List Addr}{ρ:Env1}{σ:St}
theorem RE.up (h:RE K H μ ρ σ) (st:Step K μ μ' H H'):RE K H' μ' ρ σ:=⟨h.1,fun i d e=>let ⟨v,q,r⟩:=h.2 i d e; ⟨v,q,RV.up st.tk st.ext d v r⟩⟩
theorem RE.set (h:RE K H μ ρ σ) {d:D}{v:V} (r:RV K H μ d v) (i:Nat):RE K H μ (ρ.set i (some d)) (σ.set i (some v)):=by
 refine ⟨by simp [h.1],fun j d' e=>?_⟩
 by_cases hj:i=j
 ·subst hj
  have hl:i<ρ.length:=by
   have:=(List.getElem?_eq_some_iff.mp e).1
   simpa using this
  rw [List.getElem?_set_self hl] at e
  cases e
  exact ⟨v,by rw [List.getElem?_set_self (by rw [← h.1]; exact hl)],r⟩
 ·rw [List.getElem?_set_ne hj] at e ⊢
  exact h.2 j d' e
end
def Yld (K:W.Frag) (μ:List Addr) (H:Hp) (d:D) (S':Store) (Q:VK):Prop:=∀ v H' μ',SR K μ' S' H'→Step K μ μ' H H'→RV K H' μ' d v→Q v H'
def YldA (K:W.Frag) (μ:List Addr) (H:Hp) (ds:List D) (S':Store) (Q:List V→Hp→Prop):Prop:=∀ vs H' μ',SR K μ' S' H'→Step K μ μ' H H'→RVs K H' μ' ds vs→Q vs H'
def YldT (K:W.Frag) (μ:List Addr) (H:Hp) (b:Bool) (S':Store) (Q:Bool→Hp→Prop):Prop:=∀ H' μ',SR K μ' S' H'→Step K μ μ' H H'→Q b H'
inductive tOf (K:W.Frag) (c:C) (σ:St) (H:Hp) (Q:VK):Prop
 | mk (μ:List Addr) (ρ:Env1) (S:Store) (d:D) (S':Store) (sr:SR K μ S H) (re:RE K H μ ρ σ) (e:c ρ S=.ok d S') (y:Yld K μ H d S' Q)
inductive tOfA (K:W.Frag) (c:CA) (σ:St) (H:Hp) (Q:List V→Hp→Prop):Prop
 | mk (μ:List Addr) (ρ:Env1) (S:Store) (d:List D) (S':Store) (sr:SR K μ S H) (re:RE K H μ ρ σ) (e:c ρ S=.ok d S') (y:YldA K μ H d S' Q)
inductive tOfT (K:W.Frag) (c:CT) (σ:St) (H:Hp) (Q:Bool→Hp→Prop):Prop
 | mk (μ:List Addr) (ρ:Env1) (S:Store) (d:Bool) (S':Store) (sr:SR K μ S H) (re:RE K H μ ρ σ) (e:c ρ S=.ok d S') (y:YldT K μ H d S' Q)
theorem Yld.self {K:W.Frag}{μ:List Addr}{H:Hp}{d:D}{S:Store}{Q:VK} (h:Yld K μ H d S Q) (sr:SR K μ S H) {v:V} (r:RV K H μ d v):Q v H:=h v H μ sr (Step.refl K μ H) r
theorem Yld.shift {K:W.Frag}{μ μ1:List Addr}{H H1:Hp}{d:D}{S:Store}{Q:VK} (h:Yld K μ H d S Q) (st:Step K μ μ1 H H1):Yld K μ1 H1 d S Q:=fun v H' μ' sr s2 r=>h v H' μ' sr (st.trans s2 sr.nd) r
theorem YldT.shift {K:W.Frag}{μ μ1:List Addr}{H H1:Hp}{d:Bool}{S:Store}{Q:Bool→Hp→Prop} (h:YldT K μ H d S Q) (st:Step K μ μ1 H H1):YldT K μ1 H1 d S Q:=fun H' μ' sr s2=>h H' μ' sr (st.trans s2 sr.nd)
theorem PE.weak {X:Cx}{e:Expr}{t t':TE} (h:PE X e t) (w:∀ σ H Q,t' σ H Q→t σ H Q):PE X e t':=fun pins s σ H Q I q=>h pins s σ H Q I (w σ H Q q)
theorem PT.weak {X:Cx}{e:Expr}{t t':TT} (h:PT X e t) (w:∀ σ H Q,t' σ H Q→t σ H Q):PT X e t':=fun pins s σ H Q I q=>h pins s σ H Q I (w σ H Q q)
theorem PW.weak {X:Cx}{e:Expr}{t t':TT} (h:PW X e t) (w:∀ σ H Q,t' σ H Q→t σ H Q):PW X e t':=fun wh pins s σ H Q I q=>h wh pins s σ H Q I (w σ H Q q)
theorem PA.weak {X:Cx}{e:List Expr}{t t':TA} (h:PA X e t) (w:∀ σ H Q,t' σ H Q→t σ H Q):PA X e t':=fun pos pins s σ H Q I q=>h pos pins s σ H Q I (w σ H Q q)
theorem PS.weak {X:Cx}{e:Stmt}{t t':TS} (h:PS X e t) (w:∀ D σ H,t' D σ H→t D σ H):PS X e t':=fun pins s σ H D I q=>h pins s σ H D I (w D σ H q)
theorem PSs.weak {X:Cx}{e:List Stmt}{t t':TS} (h:PSs X e t) (w:∀ D σ H,t' D σ H→t D σ H):PSs X e t':=fun pins s σ H D I q=>h pins s σ H D I (w D σ H q)
noncomputable def rAny (X:Cx) (f:Value→Value→Sem Value):R2:=fun v u H Q=>∃ r,OpR X f r∧r v u H Q
theorem opAny {X:Cx}{f:Value→Value→Sem Value}:OpR X f (rAny X f):=fun pins s σ H x y v u Q I rx ry ⟨r,ho,q⟩=>ho pins s σ H x y v u Q I rx ry q
noncomputable def uAny (X:Cx) (f:Value→Sem Value):V→Hp→VK→Prop:=fun v H Q=>∃ r,UnR X f r∧r v H Q
theorem unAny {X:Cx}{f:Value→Sem Value}:UnR X f (uAny X f):=fun pins s σ H x v Q I rx ⟨r,ho,q⟩=>ho pins s σ H x v Q I rx q
noncomputable def cAny (X:Cx) (f:Value):List V→Hp→VK→Prop:=fun vs H Q=>∃ r,CallR X f r∧r vs H Q
theorem callAny {X:Cx}{f:Value}:CallR X f (cAny X f):=fun pins s σ H x v Q I rx ⟨r,ho,q⟩=>ho pins s σ H x v Q I rx q
noncomputable def ixAnyR (X:Cx):R2:=fun v u H Q=>∃ r,IxR X r∧r v u H Q
theorem ixAny {X:Cx}:IxR X (ixAnyR X):=fun va sl pins s σ H x y v u Q I rx ry ⟨r,ho,q⟩ hs=>ho va sl pins s σ H x y v u Q I rx ry q hs
noncomputable def slAnyR (X:Cx):V→Option Int→Option Int→Hp→VK→Prop:=fun v lo hi H Q=>∃ r,SlR X r∧r v lo hi H Q
theorem slAny {X:Cx}:SlR X (slAnyR X):=fun pins s σ H x v vl vu lo hi sl Q I rx a b c ⟨r,ho,q⟩=>ho pins s σ H x v vl vu lo hi sl Q I rx a b c q
noncomputable def mtAnyR (X:Cx) (id:String):V→List V→Hp→VK→Prop:=fun v vs H Q=>∃ r,MtR X id r∧r v vs H Q
theorem mtAny {X:Cx}{id:String}:MtR X id (mtAnyR X id):=fun pins s σ H x xs v us Q I rx rs ⟨r,ho,q⟩=>ho pins s σ H x xs v us Q I rx rs q
noncomputable def setAnyR (X:Cx):TSet:=fun o i v H Q=>∃ r,PSet X r∧r o i v H Q
theorem setAny {X:Cx}:PSet X (setAnyR X):=fun pins s σ H o i v ov iv u Q I r1 r2 r3 ⟨r,ho,q⟩=>ho pins s σ H o i v ov iv u Q I r1 r2 r3 q
noncomputable def cVar (i:Nat):C:=fun ρ S=>match ρ[i]? with
 | some (some d)=>.ok d S
 | _=>.bad
noncomputable def cCon (d:D):C:=fun _ S=>.ok d S
noncomputable def cBin (o:D→D→M D) (a b:C):C:=fun ρ=>bnd (a ρ) fun x=>bnd (b ρ) fun y=>o x y
noncomputable def cUn (o:D→M D) (a:C):C:=fun ρ=>bnd (a ρ) o
noncomputable def cArgs:List C→CA
 | []=>fun _=>ret []
 | c::cs=>fun ρ=>bnd (c ρ) fun x=>bnd (cArgs cs ρ) fun xs=>ret (x::xs)
noncomputable def cApp (o:List D→M D) (a:CA):C:=fun ρ=>bnd (a ρ) o
noncomputable def cTup (a:CA):C:=cApp (fun xs=>ret (.tup xs)) a
noncomputable def cLst (a:CA):C:=cApp (fun xs S=>.ok (.lst S.length) (S++[.lst xs])) a
noncomputable def cIf (t:CT) (a b:C):C:=fun ρ=>bnd (t ρ) fun k=>if k then a ρ else b ρ
noncomputable def cBool (a:C):CT:=fun ρ=>bnd (a ρ) fun x=>match x with
 | .bl b=>ret b
 | _=>bad
noncomputable def cAndV (a b:C):C:=fun ρ=>bnd (cBool a ρ) fun k=>if k then b ρ else ret (.bl false)
noncomputable def cOrV (a b:C):C:=fun ρ=>bnd (cBool a ρ) fun k=>if k then ret (.bl true) else b ρ
noncomputable def cNotV (a:C):C:=fun ρ=>bnd (cBool a ρ) fun k=>ret (.bl (!k))
noncomputable def cAndT (a b:CT):CT:=fun ρ=>bnd (a ρ) fun k=>if k then b ρ else ret false
noncomputable def cOrT (a b:CT):CT:=fun ρ=>bnd (a ρ) fun k=>if k then ret true else b ρ
noncomputable def cNotT (a:CT):CT:=fun ρ=>bnd (a ρ) fun k=>ret (!k)
noncomputable def dB (x:D):M Bool:=match x with
 | .bl b=>ret b
 | _=>bad
noncomputable def cChain (o o':D→D→M D) (a b c:C):C:=fun ρ=>bnd (a ρ) fun x=>bnd (b ρ) fun y=>bnd (o x y) fun z=>bnd (dB z) fun k=>if k then bnd (c ρ) fun w=>o' y w else ret (.bl false)
section
variable {X:Cx}{a b c d:Expr}{ca cb cc cd:C}{pos:Pos}
theorem se_var {i:Nat}{x:Str} (h:PE X (.Name x pos) (tVar i)):PE X (.Name x pos) (tOf X.K (cVar i)):=h.weak fun σ H Q ⟨μ,ρ,S,d,S',sr,re,e,y⟩=>by
 unfold cVar at e
 split at e
 ·rename_i d' hd
  cases e
  obtain ⟨v,q,r⟩:=re.2 i _ hd
  exact ⟨v,q,y.self sr r⟩
 ·cases e
theorem se_con {e:Expr}{v:V}{d:D} (h:PE X e (tC v)) (hd:∀ K H μ,RV K H μ d v):PE X e (tOf X.K (cCon d)):=h.weak fun σ H Q ⟨μ,ρ,S,d',S',sr,re,e,y⟩=>by
 unfold cCon at e
 cases e
 exact y.self sr (hd _ _ _)
def OpS (K:W.Frag) (r:R2) (o:D→D→M D):Prop:=∀ x y S d S' H μ v u Q,o x y S=.ok d S'→SR K μ S H→RV K H μ x v→RV K H μ y u→Yld K μ H d S' Q→r v u H Q
theorem of_bin {r:R2}{o:D→D→M D} (ho:OpS X.K r o):∀ σ H Q,tOf X.K (cBin o ca cb) σ H Q→tOp r (tOf X.K ca) (tOf X.K cb) σ H Q:=by
 rintro σ H Q ⟨μ,ρ,S,d,S',sr,re,e,y⟩
 obtain ⟨x,S1,e1,e⟩:=bnd_ok e
 obtain ⟨z,S2,e2,e⟩:=bnd_ok e
 refine ⟨μ,ρ,S,x,S1,sr,re,e1,fun v H1 μ1 sr1 st1 r1=>⟨μ1,ρ,S1,z,S2,sr1,re.up st1,e2,fun u H2 μ2 sr2 st2 r2=>?_⟩⟩
 exact ho x z S2 d S' H2 μ2 v u Q e sr2 (RV.up st2.tk st2.ext _ _ r1) r2 (y.shift (st1.trans st2 sr2.nd))
theorem se_bin {op:Operator}{o:D→D→M D} (ho:OpS X.K (rAny X (binaryOp op)) o) (ha:PE X a (tOf X.K ca)) (hb:PE X b (tOf X.K cb)):PE X (.BinOp a op b pos) (tOf X.K (cBin o ca cb)):=(pe_op opAny ha hb).weak (of_bin ho)
theorem se_cmp {op:CmpOp}{o:D→D→M D} (ho:OpS X.K (rAny X (compareOp op)) o) (ha:PE X a (tOf X.K ca)) (hb:PE X b (tOf X.K cb)) (hm:behindInMarks op b=false):PE X (.Compare a [op] [b] pos) (tOf X.K (cBin o ca cb)):=(pe_cmpR opAny ha hb hm).weak (of_bin ho)
theorem of_test {t:TE}{c:C} (h:∀ σ H Q,tOf X.K c σ H Q→t σ H Q):∀ σ H Q,tOfT X.K (cBool c) σ H Q→tTest t σ H Q:=by
 rintro σ H Q ⟨μ,ρ,S,d,S',sr,re,e,y⟩
 obtain ⟨x,S1,e1,e⟩:=bnd_ok e
 refine h σ H _ ⟨μ,ρ,S,x,S1,sr,re,e1,fun v H1 μ1 sr1 st1 r1=>?_⟩
 cases x with
 | bl k =>
  obtain ⟨rfl,rfl⟩:=ret_ok e
  unfold RV at r1
  exact ⟨_,r1,y H1 μ1 sr1 st1⟩
 | _=>cases e
theorem st_cmp {op:CmpOp}{o:D→D→M D} (ho:OpS X.K (rAny X (compareOp op)) o) (ha:PE X a (tOf X.K ca)) (hb:PE X b (tOf X.K cb)) (hm:behindInMarks op b=false):PT X (.Compare a [op] [b] pos) (tOfT X.K (cBool (cBin o ca cb))):=(pt_cmpR opAny ha hb hm).weak (of_test (of_bin ho))
theorem of_chain {r r':R2}{o o':D→D→M D} (ho:OpS X.K r o) (ho':OpS X.K r' o'):∀ σ H Q,tOf X.K (cChain o o' ca cb cc) σ H Q→tChain r r' (tOf X.K ca) (tOf X.K cb) (tOf X.K cc) σ H Q:=by
 rintro σ H Q ⟨μ,ρ,S,d,S',sr,re,e,y⟩
 obtain ⟨x,S1,e1,f1⟩:=bnd_ok e
 obtain ⟨z,S2,e2,f2⟩:=bnd_ok f1
 obtain ⟨t,S3,e3,f3⟩:=bnd_ok f2
 obtain ⟨k,S4,e4,f4⟩:=bnd_ok f3
 refine ⟨μ,ρ,S,x,S1,sr,re,e1,fun v H1 μ1 sr1 st1 r1=>⟨μ1,ρ,S1,z,S2,sr1,re.up st1,e2,fun u H2 μ2 sr2 st2 r2=>?_⟩⟩
 have st12:=st1.trans st2 sr2.nd
 refine ho x z S2 t S3 H2 μ2 v u _ e3 sr2 (RV.up st2.tk st2.ext _ _ r1) r2 fun v3 H3 μ3 sr3 st3 r3=>?_
 have st13:=st12.trans st3 sr3.nd
 cases t with
 | bl k' =>
  obtain ⟨rfl,rfl⟩:=ret_ok e4
  unfold RV at r3
  refine ⟨_,r3,?_⟩
  cases k with
  | true =>
   rw [if_pos rfl] at f4 ⊢
   obtain ⟨w,S5,e5,f5⟩:=bnd_ok f4
   refine ⟨μ3,ρ,_,w,S5,sr3,re.up st13,e5,fun v5 H5 μ5 sr5 st5 r5=>?_⟩
   exact ho' z w S5 d S' H5 μ5 u v5 Q f5 sr5 (RV.up st5.tk st5.ext _ _ (RV.up st3.tk st3.ext _ _ r2)) r5 (y.shift (st13.trans st5 sr5.nd))
  | false =>
   rw [if_neg Bool.false_ne_true] at f4 ⊢
   obtain ⟨rfl,rfl⟩:=ret_ok f4
   exact y _ H3 μ3 sr3 st13 (by unfold RV; rfl)
 | _=>cases e4
theorem se_chain {op op':CmpOp}{o o':D→D→M D} (ho:OpS X.K (rAny X (compareOp op)) o) (ho':OpS X.K (rAny X (compareOp op')) o') (ha:PE X a (tOf X.K ca)) (hb:PE X b (tOf X.K cb)) (hc:PE X c (tOf X.K cc)) (hm:lastMarks [op,op'] [b,c]=false) :
  PE X (.Compare a [op,op'] [b,c] pos) (tOf X.K (cChain o o' ca cb cc)):=(pe_chain opAny opAny ha hb hc hm).weak (of_chain ho ho')
theorem st_chain {op op':CmpOp}{o o':D→D→M D} (ho:OpS X.K (rAny X (compareOp op)) o) (ho':OpS X.K (rAny X (compareOp op')) o') (ha:PE X a (tOf X.K ca)) (hb:PE X b (tOf X.K cb)) (hc:PE X c (tOf X.K cc)) (hm:lastMarks [op,op'] [b,c]=false) :
  PT X (.Compare a [op,op'] [b,c] pos) (tOfT X.K (cBool (cChain o o' ca cb cc))):=(pt_chain opAny opAny ha hb hc hm).weak (of_test (of_chain ho ho'))
def UnS (K:W.Frag) (r:V→Hp→VK→Prop) (o:D→M D):Prop:=∀ x S d S' H μ v Q,o x S=.ok d S'→SR K μ S H→RV K H μ x v→Yld K μ H d S' Q→r v H Q
theorem se_un {op:UnaryOp}{o:D→M D} (ho:UnS X.K (uAny X (unaryOp op)) o) (ha:PE X a (tOf X.K ca)):PE X (.UnaryOp op a pos) (tOf X.K (cUn o ca)):=(pe_un unAny ha).weak (by
 rintro σ H Q ⟨μ,ρ,S,d,S',sr,re,e,y⟩
 obtain ⟨x,S1,e1,e⟩:=bnd_ok e
 exact ⟨μ,ρ,S,x,S1,sr,re,e1,fun v H1 μ1 sr1 st1 r1=>ho x S1 d S' H1 μ1 v Q e sr1 r1 (y.shift st1)⟩)
theorem of_bool {σ:St}{H:Hp}{μ:List Addr}{ρ:Env1}{S S':Store}{k:Bool} (sr:SR X.K μ S H) (re:RE X.K H μ ρ σ) (e:cBool ca ρ S=.ok k S') {Q:VK} (h:∀ H1 μ1,SR X.K μ1 S' H1→Step X.K μ μ1 H H1→Q (.bl k) H1):tOf X.K ca σ H Q:=by
 obtain ⟨x,S1,e1,e⟩:=bnd_ok e
 refine ⟨μ,ρ,S,x,S1,sr,re,e1,fun v H1 μ1 sr1 st1 r1=>?_⟩
 cases x with
 | bl k' =>
  obtain ⟨rfl,rfl⟩:=ret_ok e
  unfold RV at r1
  subst r1
  exact h H1 μ1 sr1 st1
 | _=>cases e
theorem se_and {rest:List Expr} (ha:PE X a (tOf X.K ca)) (hb:PE X (.BoolOp .And (b::rest) pos) (tOf X.K cb)):PE X (.BoolOp .And (a::b::rest) pos) (tOf X.K (cAndV ca cb)):=(pe_and ha hb).weak (by
 rintro σ H Q ⟨μ,ρ,S,d,S',sr,re,e,y⟩
 obtain ⟨k,S1,e1,e⟩:=bnd_ok e
 refine of_bool sr re e1 fun H1 μ1 sr1 st1=>⟨k,rfl,?_⟩
 cases k with
 | true=>rw [if_pos rfl] at e ⊢; exact ⟨μ1,ρ,S1,d,S',sr1,re.up st1,e,y.shift st1⟩
 | false=>rw [if_neg Bool.false_ne_true] at e ⊢; obtain ⟨rfl,rfl⟩:=ret_ok e; exact y _ H1 μ1 sr1 st1 (by unfold RV; rfl))
theorem se_or {rest:List Expr} (ha:PE X a (tOf X.K ca)) (hb:PE X (.BoolOp .Or (b::rest) pos) (tOf X.K cb)):PE X (.BoolOp .Or (a::b::rest) pos) (tOf X.K (cOrV ca cb)):=(pe_or ha hb).weak (by
 rintro σ H Q ⟨μ,ρ,S,d,S',sr,re,e,y⟩
 obtain ⟨k,S1,e1,e⟩:=bnd_ok e
 refine of_bool sr re e1 fun H1 μ1 sr1 st1=>⟨k,rfl,?_⟩
 cases k with
 | false=>rw [if_neg Bool.false_ne_true] at e ⊢; exact ⟨μ1,ρ,S1,d,S',sr1,re.up st1,e,y.shift st1⟩
 | true=>rw [if_pos rfl] at e ⊢; obtain ⟨rfl,rfl⟩:=ret_ok e; exact y _ H1 μ1 sr1 st1 (by unfold RV; rfl))
theorem se_not (ha:PE X a (tOf X.K ca)):PE X (.UnaryOp .Not a pos) (tOf X.K (cNotV ca)):=(pe_not ha).weak (by
 rintro σ H Q ⟨μ,ρ,S,d,S',sr,re,e,y⟩
 obtain ⟨k,S1,e1,e⟩:=bnd_ok e
 obtain ⟨rfl,rfl⟩:=ret_ok e
 exact of_bool sr re e1 fun H1 μ1 sr1 st1=>⟨k,rfl,y _ H1 μ1 sr1 st1 (by unfold RV; rfl)⟩)
theorem se_ifExp {t:Expr}{ct:CT} (ht:PT X t (tOfT X.K ct)) (ha:PE X a (tOf X.K ca)) (hb:PE X b (tOf X.K cb)):PE X (.IfExp t a b pos) (tOf X.K (cIf ct ca cb)):=(pe_ifExp ht ha hb).weak (by
 rintro σ H Q ⟨μ,ρ,S,d,S',sr,re,e,y⟩
 obtain ⟨k,S1,e1,e⟩:=bnd_ok e
 refine ⟨μ,ρ,S,k,S1,sr,re,e1,fun H1 μ1 sr1 st1=>?_⟩
 cases k with
 | true=>rw [if_pos rfl] at e ⊢; exact ⟨μ1,ρ,S1,d,S',sr1,re.up st1,e,y.shift st1⟩
 | false=>rw [if_neg Bool.false_ne_true] at e ⊢; exact ⟨μ1,ρ,S1,d,S',sr1,re.up st1,e,y.shift st1⟩)
variable {ta tb:CT}
theorem sw_and {rest:List Expr} (ha:PT X a (tOfT X.K ta)) (hb:PW X (.BoolOp .And (b::rest) pos) (tOfT X.K tb)):PW X (.BoolOp .And (a::b::rest) pos) (tOfT X.K (cAndT ta tb)):=(pw_and ha hb).weak (by
 rintro σ H Q ⟨μ,ρ,S,d,S',sr,re,e,y⟩
 obtain ⟨k,S1,e1,e⟩:=bnd_ok e
 refine ⟨μ,ρ,S,k,S1,sr,re,e1,fun H1 μ1 sr1 st1=>?_⟩
 cases k with
 | true=>rw [if_pos rfl] at e ⊢; exact ⟨μ1,ρ,S1,d,S',sr1,re.up st1,e,y.shift st1⟩
 | false=>rw [if_neg Bool.false_ne_true] at e ⊢; obtain ⟨rfl,rfl⟩:=ret_ok e; exact y H1 μ1 sr1 st1)
theorem sw_or {rest:List Expr} (ha:PT X a (tOfT X.K ta)) (hb:PW X (.BoolOp .Or (b::rest) pos) (tOfT X.K tb)):PW X (.BoolOp .Or (a::b::rest) pos) (tOfT X.K (cOrT ta tb)):=(pw_or ha hb).weak (by
 rintro σ H Q ⟨μ,ρ,S,d,S',sr,re,e,y⟩
 obtain ⟨k,S1,e1,e⟩:=bnd_ok e
 refine ⟨μ,ρ,S,k,S1,sr,re,e1,fun H1 μ1 sr1 st1=>?_⟩
 cases k with
 | false=>rw [if_neg Bool.false_ne_true] at e ⊢; exact ⟨μ1,ρ,S1,d,S',sr1,re.up st1,e,y.shift st1⟩
 | true=>rw [if_pos rfl] at e ⊢; obtain ⟨rfl,rfl⟩:=ret_ok e; exact y H1 μ1 sr1 st1)
theorem st_not (ha:PT X a (tOfT X.K ta)):PT X (.UnaryOp .Not a pos) (tOfT X.K (cNotT ta)):=(pt_not ha).weak (by
 rintro σ H Q ⟨μ,ρ,S,d,S',sr,re,e,y⟩
 obtain ⟨k,S1,e1,e⟩:=bnd_ok e
 obtain ⟨rfl,rfl⟩:=ret_ok e
 exact ⟨μ,ρ,S,k,_,sr,re,e1,fun H1 μ1 sr1 st1=>y H1 μ1 sr1 st1⟩)
noncomputable def dTru (x:D):M Bool:=fun S=>match x with
 | .non=>.ok false S
 | .bl b=>.ok b S
 | .int i=>.ok (i != 0) S
 | .str y=>if y.length≤sizeLine then .ok ((y.length:Int) != 0) S else .bad
 | .tup xs=>.ok (!xs.isEmpty) S
 | .lst n=>match S[n]? with
  | some (.lst xs)=>.ok (!xs.isEmpty) S
  | _=>.bad
 | .dct n=>match S[n]? with
  | some (.dk kvs)=>.ok (!kvs.isEmpty) S
  | _=>.bad
 | .ty _=>.bad
 | .rol xs=>.ok (!xs.isEmpty) S
noncomputable def cTru (a:C):CT:=fun ρ=>bnd (a ρ) dTru
theorem emp_of {K:W.Frag}{H:Hp}{μ:List Addr}{ds:List D}{vs:List V} (h:RVs K H μ ds vs):ds.isEmpty=vs.isEmpty:=by
 cases ds with
 | nil=>unfold RVs at h; subst h; rfl
 | cons d ds=>unfold RVs at h; obtain ⟨v,ws,rfl,_⟩:=h; rfl
theorem SR.get {K:W.Frag}{H:Hp}{μ:List Addr}{S:Store} (sr:SR K μ S H) {n:Nat}{a:Addr}{o:O} (h:μ[n]?=some a) (ho:S[n]?=some o):OR K H μ a o:=sr.obj n a o h ho
theorem dTru_ok {K:W.Frag}{H:Hp}{μ:List Addr}{S S':Store}{x:D}{v:V}{k:Bool} (e:dTru x S=.ok k S') (sr:SR K μ S H) (r:RV K H μ x v):S'=S∧TruV K v H k:=by
 unfold dTru at e
 cases x with
 | non=>cases e; unfold RV at r; subst r; exact ⟨rfl,rfl⟩
 | bl b=>cases e; unfold RV at r; subst r; exact ⟨rfl,rfl⟩
 | int i=>cases e; unfold RV at r; subst r; exact ⟨rfl,rfl⟩
 | str y =>
  unfold RV at r; subst r
  dsimp only at e
  split at e
  ·rename_i hl; cases e; exact ⟨rfl,hl,rfl⟩
  ·cases e
 | tup xs =>
  cases e; unfold RV at r; obtain ⟨p,vs,rfl,q,rr⟩:=r
  exact ⟨rfl,.inr (.inl ⟨vs,SqT.of q,by rw [emp_of rr]⟩)⟩
 | lst n =>
  unfold RV at r; obtain ⟨a,rfl,hm⟩:=r
  dsimp only at e
  split at e
  ·rename_i xs ho
   cases e
   obtain ⟨vs,hq,rr⟩:=sr.get hm ho
   exact ⟨rfl,.inl ⟨vs,SqL.of hq,by rw [emp_of rr]⟩⟩
  ·cases e
 | dct n =>
  unfold RV at r; obtain ⟨a,rfl,hm⟩:=r
  dsimp only at e
  split at e
  ·rename_i kvs ho
   cases e
   obtain ⟨ws,hq,rr⟩:=sr.get hm ho
   refine ⟨rfl,.inr (.inr ⟨ws,hq,?_⟩)⟩
   have:=emp_of rr.2
   rw [List.isEmpty_map,List.isEmpty_map] at this
   rw [this]
  ·cases e
 | ty _=>cases e
 | rol xs =>
  cases e; unfold RV at r; obtain ⟨p,vs,rfl,q,rr⟩:=r
  exact ⟨rfl,.inl ⟨vs,q.sq,by rw [emp_of rr]⟩⟩
theorem st_tru (ha:PE X a (tOf X.K ca)) (he:∀ whole,isTrue a X.env whole=(do let v ← whole; standAt a.pos; holding [v] (truthy v))):PT X a (tOfT X.K (cTru ca)):=(pt_truth ha he).weak (by
 rintro σ H Q ⟨μ,ρ,S,d,S',sr,re,e,y⟩
 obtain ⟨x,S1,e1,e⟩:=bnd_ok e
 refine ⟨μ,ρ,S,x,S1,sr,re,e1,fun v H1 μ1 sr1 st1 r1=>?_⟩
 obtain ⟨rfl,tv⟩:=dTru_ok e sr1 r1
 exact ⟨d,tv,y H1 μ1 sr1 st1⟩)
variable {es:List Expr}{cs:List C}
theorem sa_nil:PA X [] (tOfA X.K (cArgs [])):=pa_nil.weak (by
 rintro σ H Q ⟨μ,ρ,S,d,S',sr,re,e,y⟩
 obtain ⟨rfl,rfl⟩:=ret_ok e
 exact y [] H μ sr (Step.refl _ _ _) RVs.nil)
theorem sa_cons (ha:PE X a (tOf X.K ca)) (hr:PA X es (tOfA X.K (cArgs cs))) (hs:starEach (a::es) X.env=(false,eval a X.env)::starEach es X.env):PA X (a::es) (tOfA X.K (cArgs (ca::cs))):=(pa_cons ha hr hs).weak (by
 rintro σ H Q ⟨μ,ρ,S,d,S',sr,re,e,y⟩
 obtain ⟨x,S1,e1,e⟩:=bnd_ok e
 obtain ⟨xs,S2,e2,e⟩:=bnd_ok e
 obtain ⟨rfl,rfl⟩:=ret_ok e
 exact ⟨μ,ρ,S,x,S1,sr,re,e1,fun v H1 μ1 sr1 st1 r1=>⟨μ1,ρ,S1,xs,S',sr1,re.up st1,e2,fun vs H2 μ2 sr2 st2 r2=>y (v::vs) H2 μ2 sr2 (st1.trans st2 sr2.nd) (.cons (RV.up st2.tk st2.ext _ _ r1) r2)⟩⟩)
theorem cArgs_len {ρ:Env1}:∀ {cs:List C}{S S':Store}{xs:List D},cArgs cs ρ S=.ok xs S'→xs.length=cs.length
 | [],S,S',xs,e=>by obtain ⟨rfl,rfl⟩:=ret_ok e; rfl
 | c::cs,S,S',xs,e=>by
  obtain ⟨x,S1,e1,e⟩:=bnd_ok e
  obtain ⟨ys,S2,e2,e⟩:=bnd_ok e
  obtain ⟨rfl,rfl⟩:=ret_ok e
  rw [List.length_cons,List.length_cons,cArgs_len e2]
theorem new_tup {K:W.Frag}{H:Hp}{μ:List Addr}{S:Store}{ds:List D}{vs:List V}{p:Addr} (sr:SR K μ S H) (h:H p=none) (r:RVs K H μ ds vs):SR K μ S (upd H p (.tup vs))∧Step K μ μ H (upd H p (.tup vs))∧RV K (upd H p (.tup vs)) μ (.tup ds) (.ref p):=by
 obtain ⟨s1,s2⟩:=sr.other (o:=.tup vs) h
 exact ⟨s1,s2,by unfold RV; exact ⟨p,vs,rfl,upd_same,RVs.up s2.tk s2.ext _ _ r⟩⟩
theorem new_lst {K:W.Frag}{H:Hp}{μ:List Addr}{S:Store}{ds:List D}{vs:List V}{p:Addr} (sr:SR K μ S H) (h:H p=none) (r:RVs K H μ ds vs):SR K (μ++[p]) (S++[.lst ds]) (upd H p (.lst vs))∧Step K μ (μ++[p]) H (upd H p (.lst vs))∧RV K (upd H p (.lst vs)) (μ++[p]) (.lst S.length) (.ref p):=by
 obtain ⟨s1,s2⟩:=sr.push (o:=.lst vs) (o':=.lst ds) h ⟨vs,upd_same,RVs.up (tk_new h) ⟨[p],rfl⟩ _ _ r⟩
 exact ⟨s1,s2,by unfold RV; exact ⟨p,rfl,by rw [← sr.len,List.getElem?_append_right (Nat.le_refl _),Nat.sub_self]; rfl⟩⟩
theorem Yld.newL {K:W.Frag}{H:Hp}{μ:List Addr}{S:Store}{ds:List D}{vs:List V}{p:Addr}{Q:VK} (y:Yld K μ H (.lst S.length) (S++[.lst ds]) Q) (sr:SR K μ S H) (h:H p=none) (r:RVs K H μ ds vs):Q (.ref p) (upd H p (.lst vs)):=by
 obtain ⟨s1,s2,s3⟩:=new_lst sr h r
 exact y _ _ _ s1 s2 s3
theorem Yld.newT {K:W.Frag}{H:Hp}{μ:List Addr}{S:Store}{ds:List D}{vs:List V}{p:Addr}{Q:VK} (y:Yld K μ H (.tup ds) S Q) (sr:SR K μ S H) (h:H p=none) (r:RVs K H μ ds vs):Q (.ref p) (upd H p (.tup vs)):=by
 obtain ⟨s1,s2,s3⟩:=new_tup sr h r
 exact y _ _ _ s1 s2 s3
theorem se_tup {x1} (h:PA X es (tOfA X.K (cArgs cs))) (hl:cs.length≤1000):PE X (.Tuple es x1 pos) (tOf X.K (cTup (cArgs cs))):=(pe_tup h).weak (by
 rintro σ H Q ⟨μ,ρ,S,d,S',sr,re,e,y⟩
 obtain ⟨xs,S1,e1,e⟩:=bnd_ok e
 obtain ⟨rfl,rfl⟩:=ret_ok e
 refine ⟨μ,ρ,S,xs,S',sr,re,e1,fun vs H1 μ1 sr1 st1 r1=>⟨?_,fun p hp=>(y.shift st1).newT sr1 hp r1⟩⟩
 have h1:=cArgs_len e1
 have h2:=r1.len
 exact Nat.le_of_lt (small1000 (by omega)))
theorem se_lst (h:PA X es (tOfA X.K (cArgs cs))) (hl:cs.length≤1000):PE X (.List es pos) (tOf X.K (cLst (cArgs cs))):=(pe_lst h).weak (by
 rintro σ H Q ⟨μ,ρ,S,d,S',sr,re,e,y⟩
 obtain ⟨xs,S1,e1,e⟩:=bnd_ok e
 cases e
 refine ⟨μ,ρ,S,xs,S1,sr,re,e1,fun vs H1 μ1 sr1 st1 r1=>⟨?_,fun p hp=>(y.shift st1).newL sr1 hp r1⟩⟩
 have h1:=cArgs_len e1
 have h2:=r1.len
 exact Nat.le_of_lt (small1000 (by omega)))
theorem se_ix {o:D→D→M D} (ho:OpS X.K (ixAnyR X) o) (ha:PE X a (tOf X.K ca)) (hb:PE X b (tOf X.K cb)) (hs:PlainIx b):PE X (.Subscript a b pos) (tOf X.K (cBin o ca cb)):=(pe_ix ixAny ha hb hs).weak (of_bin ho)
noncomputable def CO:=Env1→M (Option Int)
noncomputable def cNoPart:CO:=fun _=>ret none
noncomputable def dInt (x:D):M Int:=match x with
 | .int i=>ret i
 | _=>bad
noncomputable def cPart (a:C):CO:=fun ρ=>bnd (a ρ) fun x=>bnd (dInt x) fun i=>ret (some i)
def YldO (K:W.Frag) (μ:List Addr) (H:Hp) (b:Option Int) (S':Store) (Q:Option Int→Hp→Prop):Prop:=∀ H' μ',SR K μ' S' H'→Step K μ μ' H H'→Q b H'
inductive tOfO (K:W.Frag) (c:CO) (σ:St) (H:Hp) (Q:Option Int→Hp→Prop):Prop
 | mk (μ:List Addr) (ρ:Env1) (S:Store) (d:Option Int) (S':Store) (sr:SR K μ S H) (re:RE K H μ ρ σ) (e:c ρ S=.ok d S') (y:YldO K μ H d S' Q)
theorem PO.weak {e:Option Expr}{t t':TO} (h:PO X e t) (w:∀ σ H Q,t' σ H Q→t σ H Q):PO X e t':=fun pins s σ H Q I q=>h pins s σ H Q I (w σ H Q q)
theorem so_none:PO X none (tOfO X.K cNoPart):=po_none.weak (by
 rintro σ H Q ⟨μ,ρ,S,d,S',sr,re,e,y⟩
 obtain ⟨rfl,rfl⟩:=ret_ok e
 exact y H μ sr (Step.refl _ _ _))
theorem so_some (ha:PE X a (tOf X.K ca)):PO X (some a) (tOfO X.K (cPart ca)):=(po_some ha).weak (by
 rintro σ H Q ⟨μ,ρ,S,d,S',sr,re,e,y⟩
 obtain ⟨x,S1,e1,e⟩:=bnd_ok e
 obtain ⟨i,S2,e2,e⟩:=bnd_ok e
 obtain ⟨rfl,rfl⟩:=ret_ok e
 refine ⟨μ,ρ,S,x,S1,sr,re,e1,fun v H1 μ1 sr1 st1 r1=>?_⟩
 cases x with
 | int j =>
  obtain ⟨rfl,rfl⟩:=ret_ok e2
  unfold RV at r1
  exact ⟨_,r1,y H1 μ1 sr1 st1⟩
 | _=>cases e2)
noncomputable def cSl (o:D→Option Int→Option Int→M D) (a:C) (lo hi:CO):C:=fun ρ=>bnd (a ρ) fun x=>bnd (lo ρ) fun l=>bnd (hi ρ) fun h=>o x l h
def SlS (K:W.Frag) (r:V→Option Int→Option Int→Hp→VK→Prop) (o:D→Option Int→Option Int→M D):Prop:=∀ x l h S d S' H μ v Q,o x l h S=.ok d S'→SR K μ S H→RV K H μ x v→Yld K μ H d S' Q→r v l h H Q
theorem se_slice {lo hi:Option Expr}{cl ch:CO}{p2:Pos}{o:D→Option Int→Option Int→M D} (ho:SlS X.K (slAnyR X) o) (ha:PE X a (tOf X.K ca)) (hl:PO X lo (tOfO X.K cl)) (hh:PO X hi (tOfO X.K ch)):PE X (.Subscript a (.Slice lo hi none p2) pos) (tOf X.K (cSl o ca cl ch)):=(pe_slice slAny ha hl hh).weak (by
 rintro σ H Q ⟨μ,ρ,S,d,S',sr,re,e,y⟩
 obtain ⟨x,S1,e1,e⟩:=bnd_ok e
 obtain ⟨l,S2,e2,e⟩:=bnd_ok e
 obtain ⟨h,S3,e3,e⟩:=bnd_ok e
 refine ⟨μ,ρ,S,x,S1,sr,re,e1,fun v H1 μ1 sr1 st1 r1=>⟨μ1,ρ,S1,l,S2,sr1,re.up st1,e2,fun H2 μ2 sr2 st2=>?_⟩⟩
 have st12:=st1.trans st2 sr2.nd
 refine ⟨μ2,ρ,S2,h,S3,sr2,re.up st12,e3,fun H3 μ3 sr3 st3=>?_⟩
 exact ho x l h S3 d S' H3 μ3 v Q e sr3 (RV.up st3.tk st3.ext _ _ (RV.up st2.tk st2.ext _ _ r1)) (y.shift (st12.trans st3 sr3.nd)))
def CallS (K:W.Frag) (r:List V→Hp→VK→Prop) (o:List D→M D):Prop:=∀ xs S d S' H μ vs Q,o xs S=.ok d S'→SR K μ S H→RVs K H μ xs vs→Yld K μ H d S' Q→r vs H Q
variable {ca':CA}
theorem of_app {r:List V→Hp→VK→Prop}{o:List D→M D} (ho:CallS X.K r o):∀ σ H Q,tOf X.K (cApp o ca') σ H Q→tCB r (tOfA X.K ca') σ H Q:=by
 rintro σ H Q ⟨μ,ρ,S,d,S',sr,re,e,y⟩
 obtain ⟨xs,S1,e1,e⟩:=bnd_ok e
 exact ⟨μ,ρ,S,xs,S1,sr,re,e1,fun vs H1 μ1 sr1 st1 r1=>ho xs S1 d S' H1 μ1 vs Q e sr1 r1 (y.shift st1)⟩
noncomputable def spOf (K:W.Frag) (φ:List D→M D) (n:Nat):Sp:=fun vs H Q E=>vs.length=n∧∃ μ ds S d S',SR K μ S H∧RVs K H μ ds vs∧φ ds S=.ok d S'∧Yld K μ H d S' Q
theorem of_call {φ:List D→M D}{n:Nat} (hn:∀ ds S d S',φ ds S=.ok d S'→ds.length=n):∀ σ H Q,tOf X.K (cApp φ ca') σ H Q→tCall (spOf X.K φ n) [] E0 (tOfA X.K ca') σ H Q:=by
 rintro σ H Q ⟨μ,ρ,S,d,S',sr,re,e,y⟩
 obtain ⟨xs,S1,e1,e⟩:=bnd_ok e
 refine ⟨μ,ρ,S,xs,S1,sr,re,e1,fun vs H1 μ1 sr1 st1 r1=>?_⟩
 rw [List.append_nil]
 exact ⟨by rw [← r1.len]; exact hn _ _ _ _ e,μ1,xs,S1,d,S',sr1,r1,e,y.shift st1⟩
end
open PySem PySem.Spec PyProof.Rows
noncomputable def lim:Nat:=1048576
theorem lim_le {n:Nat} (h:n≤lim):n≤sizeLine:=Nat.le_trans h (by decide)
theorem lim_lt {n:Nat} (h:n<lim):n<sizeLine:=Nat.lt_of_lt_of_le h (by decide)
section
variable {K:W.Frag}{H H' H1:Hp}{μ:List Addr}{S:Store}
theorem SR.same (sr:SR K μ S H) (sm:Same H H1):SR K μ S H1∧Step K μ μ H H1:=by
 have tk:TF K H H1:=tf_same sm
 refine ⟨⟨sr.len,sr.nd,fun n a o e1 e2=>?_⟩,⟨⟨[],by simp,by simp⟩,fun b o _ h=>sm b o h,tk⟩⟩
 obtain ⟨u,hu⟩:=sr.isS (List.mem_of_getElem? e1)
 exact (sr.obj n a o e1 e2).up tk ⟨[],by simp⟩ (by rw [hu]; exact sm _ _ hu)
theorem Yld.oldT {ds:List D}{vs:List V}{p:Addr}{Q:VK} (y:Yld K μ H (.tup ds) S Q) (sr:SR K μ S H) (sm:Same H H1) (h:H1 p=some (.tup vs)) (r:RVs K H μ ds vs):Q (.ref p) H1:=by
 obtain ⟨s1,s2⟩:=sr.same sm
 exact y _ _ _ s1 s2 (by unfold RV; exact ⟨p,vs,rfl,h,RVs.up s2.tk s2.ext _ _ r⟩)
theorem rv_int {i:Int}:RV K H μ (.int i) (.int i):=by unfold RV; rfl
theorem rv_bl {i:Bool}:RV K H μ (.bl i) (.bl i):=by unfold RV; rfl
theorem rv_non:RV K H μ .non .non:=by unfold RV; rfl
theorem rv_str {i:Str}:RV K H μ (.str i) (.str i):=by unfold RV; rfl
theorem SR.lst (sr:SR K μ S H) {n:Nat}{a:Addr}{xs:List D} (h:μ[n]?=some a) (ho:S[n]?=some (.lst xs)):∃ vs,H a=some (.lst vs)∧RVs K H μ xs vs:=sr.obj n a _ h ho
noncomputable def lstAt (S:Store) (n:Nat):Option (List D):=match S[n]? with
 | some (.lst xs)=>some xs
 | _=>none
theorem SR.sq (sr:SR K μ S H) {n:Nat}{a:Addr}{xs:List D} (h:μ[n]?=some a) (ho:lstAt S n=some xs):∃ vs,SqL K H a vs∧RVs K H μ xs vs:=by
 unfold lstAt at ho
 split at ho
 ·rename_i ys e; cases ho
  obtain ⟨vs,q,r⟩:=sr.get h e
  exact ⟨vs,SqL.of q,r⟩
 ·cases ho
noncomputable def seqAt (S:Store):D→Option (List D)
 | .tup xs=>some xs
 | .lst n=>lstAt S n
 | .rol xs=>some xs
 | _=>none
theorem SR.seq (sr:SR K μ S H) {x:D}{v:V}{xs:List D} (r:RV K H μ x v) (ho:seqAt S x=some xs):∃ a vs,v=.ref a∧(SqL K H a vs∨SqT K H a vs)∧RVs K H μ xs vs:=by
 unfold seqAt at ho
 split at ho
 ·cases ho
  unfold RV at r; obtain ⟨p,vs,rfl,q,rr⟩:=r
  exact ⟨p,vs,rfl,.inr (SqT.of q),rr⟩
 ·unfold RV at r; obtain ⟨a,rfl,hm⟩:=r
  obtain ⟨vs,q,rr⟩:=sr.sq hm ho
  exact ⟨a,vs,rfl,.inl q,rr⟩
 ·cases ho
  unfold RV at r; obtain ⟨p,vs,rfl,q,rr⟩:=r
  exact ⟨p,vs,rfl,.inl q.sq,rr⟩
 ·cases ho
theorem RVs.rep {ds:List D}{vs:List V} (h:RVs K H μ ds vs):∀ k:Nat,RVs K H μ (List.replicate k ds).flatten (List.replicate k vs).flatten
 | 0=>by simp; exact .nil
 | k+1=>by rw [List.replicate_succ,List.flatten_cons,List.replicate_succ,List.flatten_cons]; exact h.append (RVs.rep h k)
theorem RVs.cons_inv {d:D}{ds:List D}{vs:List V} (h:RVs K H μ (d::ds) vs):∃ v ws,vs=v::ws∧RV K H μ d v∧RVs K H μ ds ws:=by unfold RVs at h; exact h
theorem RVs.nil_inv {vs:List V} (h:RVs K H μ [] vs):vs=[]:=by unfold RVs at h; exact h
end
noncomputable def oInt (g:Int→Int→Int):D→D→M D
 | .int i,.int j=>ret (.int (g i j))
 | _,_=>bad
noncomputable def oAdd:D→D→M D
 | .int i,.int j=>ret (.int (i+j))
 | .tup xs,.tup ys=>fun S=>if xs.length+ys.length≤lim then .ok (.tup (xs++ys)) S else .bad
 | .lst n,.lst m=>fun S=>match S[n]?,S[m]? with
  | some (.lst xs),some (.lst ys)=>if xs.length+ys.length≤lim then .ok (.lst S.length) (S++[.lst (xs++ys)]) else .bad
  | _,_=>.bad
 | .str x,.str y=>fun S=>if x.length+y.length≤lim then .ok (.str (x++y)) S else .bad
 | _,_=>bad
noncomputable def mulOk (i j:Int):Bool:=(decide (-18446744073709551616<i)&&decide (i<18446744073709551616))||(decide (-18446744073709551616<j)&&decide (j<18446744073709551616))
noncomputable def oMul:D→D→M D
 | .int i,.int j=>fun S=>if mulOk i j then .ok (.int (i*j)) S else .bad
 | .tup xs,.int k=>fun S=>if xs≠[]∧2≤k∧k<1000∧xs.length*k.toNat≤lim then .ok (.tup (List.replicate k.toNat xs).flatten) S else .bad
 | .lst n,.int k=>fun S=>match S[n]? with
  | some (.lst xs)=>if -1000<k∧k<1000000∧xs.length*k.toNat≤lim then .ok (.lst S.length) (S++[.lst (List.replicate k.toNat xs).flatten]) else .bad
  | _=>.bad
 | _,_=>bad
noncomputable def oMod:D→D→M D
 | .int i,.int j=>fun S=>if 0<j then .ok (.int (i % j)) S else .bad
 | _,_=>bad
noncomputable def oDiv:D→D→M D
 | .int i,.int j=>fun S=>if 0<j∧j<1073741824 then .ok (.int (i / j)) S else .bad
 | _,_=>bad
noncomputable def oPow:D→D→M D
 | .int i,.int j=>fun S=>if 0≤j∧j≤1000000∧i.natAbs<18446744073709551616 then .ok (.int (i ^ j.toNat)) S else .bad
 | _,_=>bad
noncomputable def oShl:D→D→M D
 | .int i,.int j=>fun S=>if 0≤j∧j≤1000000∧i.natAbs<18446744073709551616 then .ok (.int (i*2 ^ j.toNat)) S else .bad
 | _,_=>bad
noncomputable def oShr:D→D→M D
 | .int i,.int j=>fun S=>if 0≤j then .ok (.int (i / 2 ^ j.toNat)) S else .bad
 | _,_=>bad
noncomputable def oNeg:D→M D
 | .int i=>ret (.int (-i))
 | _=>bad
section
variable {X:Cx}
theorem os_int {op:Operator}{g:Int→Int→Int} (h:OpR X (binaryOp op) (rI0 fun i j=>.int (g i j))):OpS X.K (rAny X (binaryOp op)) (oInt g):=by
 intro x y S d S' H μ v u Q e sr rx ry h'
 unfold oInt at e
 split at e
 ·obtain ⟨rfl,rfl⟩:=ret_ok e
  unfold RV at rx ry; subst rx ry
  exact ⟨_,h,_,_,rfl,rfl,h'.self sr rv_int⟩
 ·cases e
theorem os_sub:OpS X.K (rAny X (binaryOp .Sub)) (oInt fun i j=>i - j):=os_int op_sub
theorem os_and:OpS X.K (rAny X (binaryOp .BitAnd)) (oInt Builtin.bitAnd):=os_int op_and
theorem os_or:OpS X.K (rAny X (binaryOp .BitOr)) (oInt Builtin.bitOr):=os_int op_or
theorem os_xor:OpS X.K (rAny X (binaryOp .BitXor)) (oInt Builtin.bitXor):=os_int op_xor
theorem os_add:OpS X.K (rAny X (binaryOp .Add)) oAdd:=by
 intro x y S d S' H μ v u Q e sr rx ry h
 unfold oAdd at e
 split at e
 ·obtain ⟨rfl,rfl⟩:=ret_ok e
  unfold RV at rx ry; subst rx ry
  exact ⟨_,op_add,_,_,rfl,rfl,h.self sr rv_int⟩
 ·try dsimp only at e
  split at e
  ·rename_i hl; cases e
   unfold RV at rx ry
   obtain ⟨p,vs,rfl,q1,r1⟩:=rx
   obtain ⟨p2,ws,rfl,q2,r2⟩:=ry
   exact ⟨_,op_catT2,p,p2,vs,ws,rfl,rfl,q1,q2,by rw [← r1.len,← r2.len]; exact lim_le hl,fun p3 H1 sm sq=>h.oldT sr sm sq (r1.append r2)⟩
  ·cases e
 ·try dsimp only at e
  unfold RV at rx ry
  obtain ⟨p,rfl,m1⟩:=rx
  obtain ⟨p2,rfl,m2⟩:=ry
  split at e
  ·rename_i xs ys o1 o2
   split at e
   ·rename_i hl; cases e
    obtain ⟨vs,q1,r1⟩:=sr.lst m1 o1
    obtain ⟨ws,q2,r2⟩:=sr.lst m2 o2
    exact ⟨_,op_cat,p,p2,vs,ws,rfl,rfl,q1,q2,by rw [← r1.len,← r2.len]; exact lim_le hl,fun p3 hp=>h.newL sr hp (r1.append r2)⟩
   ·cases e
  ·cases e
 ·try dsimp only at e
  split at e
  ·rename_i hl; cases e
   unfold RV at rx ry; subst rx ry
   exact ⟨_,op_add_str,_,_,rfl,rfl,lim_le hl,h.self sr rv_str⟩
  ·cases e
 ·cases e
theorem mulOk_c {i j:Int} (h:mulOk i j=true):CMul i j:=by
 unfold mulOk at h
 simp only [Bool.or_eq_true,Bool.and_eq_true,decide_eq_true_eq] at h
 exact h
theorem os_mul:OpS X.K (rAny X (binaryOp .Mult)) oMul:=by
 intro x y S d S' H μ v u Q e sr rx ry h
 unfold oMul at e
 split at e
 ·try dsimp only at e
  split at e
  ·rename_i hl; cases e
   unfold RV at rx ry; subst rx ry
   exact ⟨_,op_mul,_,_,rfl,rfl,mulOk_c hl,h.self sr rv_int⟩
  ·cases e
 ·try dsimp only at e
  split at e
  ·rename_i hl; cases e
   obtain ⟨h1,h2,h3,h4⟩:=hl
   unfold RV at rx ry
   obtain ⟨p,vs,rfl,q1,r1⟩:=rx
   subst ry
   refine ⟨_,op_repT,p,vs,_,rfl,rfl,SqT.of q1,?_,h2,h3,by rw [← r1.len]; exact lim_le h4,fun p hp=>h.newT sr hp (r1.rep _)⟩
   intro z; subst z
   have:=r1.len
   exact h1 (List.length_eq_zero_iff.mp this)
  ·cases e
 ·try dsimp only at e
  split at e
  ·rename_i ys o1
   split at e
   ·rename_i hl; cases e
    obtain ⟨h1,h2,h3⟩:=hl
    unfold RV at rx ry
    obtain ⟨p,rfl,m1⟩:=rx
    subst ry
    obtain ⟨vs,q1,r1⟩:=sr.lst m1 o1
    exact ⟨_,op_rep,p,_,vs,rfl,rfl,q1,by omega,by omega,by rw [← r1.len]; exact lim_le h3,fun p hp=>h.newL sr hp (r1.rep _)⟩
   ·cases e
  ·cases e
 ·cases e
theorem os_mod:OpS X.K (rAny X (binaryOp .Mod)) oMod:=by
 intro x y S d S' H μ v u Q e sr rx ry h
 unfold oMod at e
 split at e
 ·try dsimp only at e
  split at e
  ·rename_i hl; cases e
   unfold RV at rx ry; subst rx ry
   exact ⟨_,op_mod,_,_,rfl,rfl,hl,h.self sr rv_int⟩
  ·cases e
 ·cases e
theorem os_div:OpS X.K (rAny X (binaryOp .FloorDiv)) oDiv:=by
 intro x y S d S' H μ v u Q e sr rx ry h
 unfold oDiv at e
 split at e
 ·try dsimp only at e
  split at e
  ·rename_i hl; cases e
   unfold RV at rx ry; subst rx ry
   exact ⟨_,op_fdiv,_,_,rfl,rfl,hl,h.self sr rv_int⟩
  ·cases e
 ·cases e
theorem os_pow:OpS X.K (rAny X (binaryOp .Pow)) oPow:=by
 intro x y S d S' H μ v u Q e sr rx ry h
 unfold oPow at e
 split at e
 ·try dsimp only at e
  split at e
  ·rename_i hl; cases e
   unfold RV at rx ry; subst rx ry
   exact ⟨_,op_pow,_,_,rfl,rfl,hl,h.self sr rv_int⟩
  ·cases e
 ·cases e
theorem os_shl:OpS X.K (rAny X (binaryOp .LShift)) oShl:=by
 intro x y S d S' H μ v u Q e sr rx ry h
 unfold oShl at e
 split at e
 ·try dsimp only at e
  split at e
  ·rename_i hl; cases e
   unfold RV at rx ry; subst rx ry
   exact ⟨_,op_shl,_,_,rfl,rfl,hl,h.self sr rv_int⟩
  ·cases e
 ·cases e
theorem os_shr:OpS X.K (rAny X (binaryOp .RShift)) oShr:=by
 intro x y S d S' H μ v u Q e sr rx ry h
 unfold oShr at e
 split at e
 ·try dsimp only at e
  split at e
  ·rename_i hl; cases e
   unfold RV at rx ry; subst rx ry
   exact ⟨_,op_shr,_,_,rfl,rfl,hl,h.self sr rv_int⟩
  ·cases e
 ·cases e
theorem us_neg:UnS X.K (uAny X (unaryOp .USub)) oNeg:=by
 intro x S d S' H μ v Q e sr rx h
 unfold oNeg at e
 split at e
 ·obtain ⟨rfl,rfl⟩:=ret_ok e
  unfold RV at rx; subst rx
  exact ⟨_,un_neg,_,rfl,h.self sr rv_int⟩
 ·cases e
noncomputable def oCmp (g:Int→Int→Bool):D→D→M D
 | .int i,.int j=>ret (.bl (g i j))
 | _,_=>bad
theorem os_cmp {op:CmpOp}{g:Int→Int→Bool} (h:OpR X (compareOp op) (rI0 fun i j=>.bl (g i j))):OpS X.K (rAny X (compareOp op)) (oCmp g):=by
 intro x y S d S' H μ v u Q e sr rx ry h'
 unfold oCmp at e
 split at e
 ·obtain ⟨rfl,rfl⟩:=ret_ok e
  unfold RV at rx ry; subst rx ry
  exact ⟨_,h,_,_,rfl,rfl,h'.self sr rv_bl⟩
 ·cases e
theorem os_le:OpS X.K (rAny X (compareOp .LtE)) (oCmp fun i j=>decide (i≤j)):=os_cmp op_le
theorem os_gt:OpS X.K (rAny X (compareOp .Gt)) (oCmp fun i j=>decide (j<i)):=os_cmp op_gt
theorem os_ge:OpS X.K (rAny X (compareOp .GtE)) (oCmp fun i j=>decide (j≤i)):=os_cmp op_ge
noncomputable def intsOf:List D→Option (List Int)
 | []=>some []
 | .int i::r=>(intsOf r).map (i::·)
 | _::_=>none
theorem intsOf_vs {K:W.Frag}{H:Hp}{μ:List Addr}:∀ {ds:List D}{ns:List Int}{vs:List V},intsOf ds=some ns→RVs K H μ ds vs→vs=ns.map V.int
 | [],ns,vs,e,r=>by cases e; rw [r.nil_inv]; rfl
 | .int i::ds,ns,vs,e,r=>by
  obtain ⟨v,ws,rfl,r1,r2⟩:=r.cons_inv
  unfold intsOf at e
  cases q:intsOf ds with
  | none=>rw [q] at e; cases e
  | some ms =>
   rw [q] at e; cases e
   unfold RV at r1; subst r1
   rw [intsOf_vs q r2]; rfl
 | .non::ds,ns,vs,e,r=>by cases e
 | .bl _::ds,ns,vs,e,r=>by cases e
 | .str _::ds,ns,vs,e,r=>by cases e
 | .ty _::ds,ns,vs,e,r=>by cases e
 | .tup _::ds,ns,vs,e,r=>by cases e
 | .lst _::ds,ns,vs,e,r=>by cases e
 | .dct _::ds,ns,vs,e,r=>by cases e
 | .rol _::ds,ns,vs,e,r=>by cases e
noncomputable def oLt:D→D→M D
 | .int i,.int j=>ret (.bl (decide (i<j)))
 | _,_=>bad
theorem os_lt (hu:X.A.units<cLine):OpS X.K (rAny X (compareOp .Lt)) oLt:=by
 intro x y S d S' H μ v u Q e sr rx ry h
 unfold oLt at e
 split at e
 ·obtain ⟨rfl,rfl⟩:=ret_ok e
  unfold RV at rx ry; subst rx ry
  exact ⟨_,op_lt,_,_,rfl,rfl,h.self sr rv_bl⟩
 ·cases e
noncomputable def snap:Nat→Store→D→Option PyData
 | 0,_,_=>none
 | n+1,S,d=>match d with
  | .non=>some .none
  | .bl b=>some (.bool b)
  | .int i=>some (.int i)
  | .str x=>if PyData.strOk x then some (.str x) else none
  | .tup xs=>(xs.mapM (snap n S)).map .tuple
  | .lst k=>match lstAt S k with
   | some xs=>(xs.mapM (snap n S)).map .list
   | none=>none
  | _=>none
theorem snapL {K:W.Frag}{H:Hp}{μ:List Addr}{S:Store}{n:Nat} (ih:∀ d v p,snap n S d=some p→RV K H μ d v→Rp K H (fun _=>True) v p∧p.canLay0=true∧p.depth≤n):∀ (xs:List D) (vs:List V) (ps:List PyData),xs.mapM (snap n S)=some ps→RVs K H μ xs vs→RpL K H (fun _=>True) vs ps∧PyData.canLayAll0 ps=true∧PyData.depthAll ps≤n
 | [],vs,ps,e,r=>by
  simp at e; subst e
  rw [r.nil_inv]
  exact ⟨.nil,rfl,Nat.zero_le _⟩
 | d::ds,vs,ps,e,r=>by
  obtain ⟨v,ws,rfl,r1,r2⟩:=r.cons_inv
  rw [List.mapM_cons] at e
  cases q:snap n S d with
  | none=>rw [q] at e; cases e
  | some p =>
   cases q2:ds.mapM (snap n S) with
   | none=>rw [q,q2] at e; cases e
   | some ps' =>
    rw [q,q2] at e
    cases e
    obtain ⟨a1,a2,a3⟩:=ih d v p q r1
    obtain ⟨b1,b2,b3⟩:=snapL ih ds ws ps' q2 r2
    refine ⟨.cons a1 b1,?_,?_⟩
    ·show (PyData.canLay0 p&&PyData.canLayAll0 ps')=true
     rw [a2,b2]; rfl
    ·show max p.depth (PyData.depthAll ps')≤n
     omega
theorem snap_ok {K:W.Frag}{H:Hp}{μ:List Addr}{S:Store} (sr:SR K μ S H):∀ (n:Nat) (d:D) (v:V) (p:PyData),snap n S d=some p→RV K H μ d v→Rp K H (fun _=>True) v p∧p.canLay0=true∧p.depth≤n
 | 0,d,v,p,e,r=>by cases e
 | n+1,d,v,p,e,r=>by
  unfold snap at e
  cases d with
  | non=>cases e; unfold RV at r; subst r; exact ⟨.non,rfl,Nat.zero_le _⟩
  | bl b=>cases e; unfold RV at r; subst r; exact ⟨.bl b,rfl,Nat.zero_le _⟩
  | int i=>cases e; unfold RV at r; subst r; exact ⟨.int i,rfl,Nat.zero_le _⟩
  | str x =>
   dsimp only at e
   split at e
   ·rename_i hs; cases e; unfold RV at r; subst r; exact ⟨.str x,hs,Nat.zero_le _⟩
   ·cases e
  | tup xs =>
   dsimp only at e
   cases q:xs.mapM (snap n S) with
   | none=>rw [q] at e; cases e
   | some ps =>
    rw [q] at e; cases e
    unfold RV at r; obtain ⟨a,vs,rfl,hq,rr⟩:=r
    obtain ⟨b1,b2,b3⟩:=snapL (fun d v p e r=>snap_ok sr n d v p e r) xs vs ps q rr
    exact ⟨.tup (SqT.of hq) b1,b2,Nat.succ_le_succ b3⟩
  | lst k =>
   dsimp only at e
   split at e
   ·rename_i xs hx
    cases q:xs.mapM (snap n S) with
    | none=>rw [q] at e; cases e
    | some ps =>
     rw [q] at e; cases e
     unfold RV at r; obtain ⟨a,rfl,hm⟩:=r
     obtain ⟨vs,hq,rr⟩:=sr.sq hm hx
     obtain ⟨b1,b2,b3⟩:=snapL (fun d v p e r=>snap_ok sr n d v p e r) xs vs ps q rr
     exact ⟨.lst True.intro hq b1,b2,Nat.succ_le_succ b3⟩
   ·cases e
  | dct k=>cases e
  | ty k=>cases e
  | rol k=>cases e
noncomputable def oEq:D→D→M D:=fun x y S=>match x,y with
 | .str a,.str b=>.ok (.bl (decide (a=b))) S
 | _,_=>match snap 40 S x,snap 40 S y with
  | some p,some q=>.ok (.bl (PyData.eqv p q)) S
  | _,_=>.bad
noncomputable def oNe:D→D→M D:=fun x y S=>match x,y with
 | .str a,.str b=>.ok (.bl (!decide (a=b))) S
 | _,_=>match snap 40 S x,snap 40 S y with
  | some p,some q=>.ok (.bl (!PyData.eqv p q)) S
  | _,_=>.bad
theorem os_eq (hu:X.A.units+64<cLine):OpS X.K (rAny X (compareOp .Eq)) oEq:=by
 intro x y S d S' H μ v u Q e sr rx ry h
 unfold oEq at e
 split at e
 ·rename_i a b
  cases e
  unfold RV at rx ry; subst rx ry
  refine ⟨_,op_eq,rfl,?_⟩
  have z:decide (V.str a=V.str b)=decide (a=b):=by simp
  rw [z]
  exact h.self sr rv_bl
 ·split at e
  ·rename_i p q e1 e2
   cases e
   obtain ⟨a1,a2,a3⟩:=snap_ok sr 40 x v p e1 rx
   obtain ⟨b1,b2,b3⟩:=snap_ok sr 40 y u q e2 ry
   exact ⟨_,op_eqD hu,_,_,p,q,a1,b1,⟨a2,by omega⟩,⟨b2,by omega⟩,h.self sr rv_bl⟩
  ·cases e
theorem os_ne (hu:X.A.units+64<cLine):OpS X.K (rAny X (compareOp .NotEq)) oNe:=by
 intro x y S d S' H μ v u Q e sr rx ry h
 unfold oNe at e
 split at e
 ·rename_i a b
  cases e
  unfold RV at rx ry; subst rx ry
  refine ⟨_,op_ne,rfl,?_⟩
  have z:decide (V.str a=V.str b)=decide (a=b):=by simp
  rw [z]
  exact h.self sr rv_bl
 ·split at e
  ·rename_i p q e1 e2
   cases e
   obtain ⟨a1,a2,a3⟩:=snap_ok sr 40 x v p e1 rx
   obtain ⟨b1,b2,b3⟩:=snap_ok sr 40 y u q e2 ry
   exact ⟨_,op_neD hu,_,_,p,q,a1,b1,⟨a2,by omega⟩,⟨b2,by omega⟩,h.self sr rv_bl⟩
  ·cases e
noncomputable def D.isNon:D→Bool
 | .non=>true
 | _=>false
theorem isNon_v {K:W.Frag}{H:Hp}{μ:List Addr}{x:D}{v:V} (r:RV K H μ x v):decide (v=.non)=x.isNon:=by
 cases x with
 | non=>unfold RV at r; subst r; rfl
 | bl _=>unfold RV at r; subst r; rfl
 | int _=>unfold RV at r; subst r; rfl
 | str _=>unfold RV at r; subst r; rfl
 | ty _=>unfold RV at r; subst r; rfl
 | tup _=>unfold RV at r; obtain ⟨_,_,rfl,_⟩:=r; rfl
 | lst _=>unfold RV at r; obtain ⟨_,rfl,_⟩:=r; rfl
 | dct _=>unfold RV at r; obtain ⟨_,rfl,_⟩:=r; rfl
 | rol _=>unfold RV at r; obtain ⟨_,_,rfl,_⟩:=r; rfl
noncomputable def oIs:D→D→M D
 | x,.non=>ret (.bl x.isNon)
 | .bl a,.bl b=>ret (.bl (a == b))
 | _,_=>bad
noncomputable def oIsNot:D→D→M D
 | x,.non=>ret (.bl (!x.isNon))
 | .bl a,.bl b=>ret (.bl (a != b))
 | _,_=>bad
theorem os_is:OpS X.K (rAny X (compareOp .Is)) oIs:=by
 intro x y S d S' H μ v u Q e sr rx ry h
 unfold oIs at e
 split at e
 ·obtain ⟨rfl,rfl⟩:=ret_ok e
  unfold RV at ry
  exact ⟨_,op_isN,ry,by rw [isNon_v rx]; exact h.self sr rv_bl⟩
 ·obtain ⟨rfl,rfl⟩:=ret_ok e
  unfold RV at rx ry; subst rx ry
  exact ⟨_,op_is_bl,_,_,rfl,rfl,h.self sr rv_bl⟩
 ·cases e
theorem os_isNot:OpS X.K (rAny X (compareOp .IsNot)) oIsNot:=by
 intro x y S d S' H μ v u Q e sr rx ry h
 unfold oIsNot at e
 split at e
 ·obtain ⟨rfl,rfl⟩:=ret_ok e
  unfold RV at ry
  exact ⟨_,op_notN,ry,by rw [isNon_v rx]; exact h.self sr rv_bl⟩
 ·obtain ⟨rfl,rfl⟩:=ret_ok e
  unfold RV at rx ry; subst rx ry
  exact ⟨_,op_isnot_bl,_,_,rfl,rfl,h.self sr rv_bl⟩
 ·cases e
noncomputable def flat:D→Option V
 | .non=>some .non
 | .bl b=>some (.bl b)
 | .int i=>some (.int i)
 | .str x=>some (.str x)
 | _=>none
theorem flat_v {K:W.Frag}{H:Hp}{μ:List Addr}{x:D}{v w:V} (e:flat x=some w) (r:RV K H μ x v):v=w:=by
 cases x with
 | non=>cases e; unfold RV at r; exact r
 | bl _=>cases e; unfold RV at r; exact r
 | int _=>cases e; unfold RV at r; exact r
 | str _=>cases e; unfold RV at r; exact r
 | _=>cases e
theorem flats_v {K:W.Frag}{H:Hp}{μ:List Addr}:∀ {ds:List D}{vs ws:List V},ds.mapM flat=some ws→RVs K H μ ds vs→vs=ws
 | [],vs,ws,e,r=>by simp at e; subst e; exact r.nil_inv
 | d::ds,vs,ws,e,r=>by
  obtain ⟨v,us,rfl,r1,r2⟩:=r.cons_inv
  rw [List.mapM_cons] at e
  cases q:flat d with
  | none=>rw [q] at e; cases e
  | some w =>
   cases q2:ds.mapM flat with
   | none=>rw [q,q2] at e; cases e
   | some ws' =>
    rw [q,q2] at e; cases e
    rw [flat_v q r1,flats_v q2 r2]
noncomputable def keyOf:D→Option Key
 | .int i=>some (.inl i)
 | .str x=>some (.inr x)
 | _=>none
theorem keyOf_v {K:W.Frag}{H:Hp}{μ:List Addr}{x:D}{v:V}{k:Key} (e:keyOf x=some k) (r:RV K H μ x v):v=kV k:=by
 cases x with
 | int _=>cases e; unfold RV at r; exact r
 | str _=>cases e; unfold RV at r; exact r
 | _=>cases e
noncomputable def valD {κ:Type} [DecidableEq κ] (kvs:List (κ × D)) (k:κ):Option D:=(kvs.find? fun kv=>decide (kv.1=k)).map (·.2)
noncomputable def putD {κ:Type} [DecidableEq κ] (kvs:List (κ × D)) (k:κ) (v:D):List (κ × D) :=
 if (kvs.any fun kv=>decide (kv.1=k))=true then kvs.map (fun kv=>if kv.1=k then (kv.1,v) else kv) else kvs++[(k,v)]
section
variable {κ:Type} [DecidableEq κ] {K:W.Frag}{H:Hp}{μ:List Addr}
theorem RKs.cons_inv {p:κ × D}{kvs:List (κ × D)}{ws:List (κ × V)} (h:RKs K H μ (p::kvs) ws):∃ q us,ws=q::us∧p.1=q.1∧RV K H μ p.2 q.2∧RKs K H μ kvs us:=by
 obtain ⟨h1,h2⟩:=h
 rw [List.map_cons] at h1 h2
 obtain ⟨v,vs,e,r1,r2⟩:=h2.cons_inv
 cases ws with
 | nil=>simp at h1
 | cons q us =>
  rw [List.map_cons] at h1 e
  cases e
  rw [List.cons.injEq] at h1
  exact ⟨q,us,rfl,h1.1,r1,h1.2,r2⟩
theorem RKs.val {k:κ}:∀ {kvs:List (κ × D)}{ws:List (κ × V)},RKs K H μ kvs ws→(∀ d,valD kvs k=some d→∃ v,valV ws k=some v∧RV K H μ d v)∧(valD kvs k=none→valV ws k=none)
 | [],ws,h=>by
  have:ws=[]:=by have:=h.1; cases ws with | nil=>rfl | cons a b=>simp at this
  subst this
  exact ⟨fun d e=>(by cases e),fun _=>rfl⟩
 | p::kvs,ws,h=>by
  obtain ⟨q,us,rfl,e1,r1,r2⟩:=h.cons_inv
  obtain ⟨i1,i2⟩:=RKs.val (k:=k) r2
  by_cases hk:p.1=k
  ·have e2:valD (p::kvs) k=some p.2:=by simp [valD,List.find?_cons,hk]
   rw [e2,valV_pos (e1▸hk)]
   exact ⟨fun d e=>by cases e; exact ⟨_,rfl,r1⟩,fun e=>by cases e⟩
  ·have e2:valD (p::kvs) k=valD kvs k:=by simp [valD,List.find?_cons,hk]
   rw [e2,valV_neg (e1▸hk)]
   exact ⟨i1,i2⟩
theorem RKs.nil:RKs K H μ ([]:List (κ × D)) []:=⟨rfl,RVs.nil⟩
theorem RKs.cons {k:κ}{d:D}{v:V}{kvs:List (κ × D)}{ws:List (κ × V)} (r:RV K H μ d v) (h:RKs K H μ kvs ws):RKs K H μ ((k,d)::kvs) ((k,v)::ws):=⟨by rw [List.map_cons,List.map_cons,h.1],by rw [List.map_cons,List.map_cons]; exact .cons r h.2⟩
theorem RKs.any {k:κ}:∀ {kvs:List (κ × D)}{ws:List (κ × V)},RKs K H μ kvs ws→(kvs.any fun kv=>decide (kv.1=k))=(ws.any fun kv=>decide (kv.1=k))
 | [],ws,h=>by
  have:ws=[]:=by have:=h.1; cases ws with | nil=>rfl | cons a b=>simp at this
  subst this; rfl
 | p::kvs,ws,h=>by
  obtain ⟨q,us,rfl,e1,r1,r2⟩:=h.cons_inv
  rw [List.any_cons,List.any_cons,RKs.any r2,e1]
theorem RKs.mapSet {k:κ}{d:D}{v:V} (rv:RV K H μ d v):∀ {kvs:List (κ × D)}{ws:List (κ × V)},RKs K H μ kvs ws→RKs K H μ (kvs.map (fun kv=>if kv.1=k then (kv.1,d) else kv)) (ws.map (fun kv=>if kv.1=k then (kv.1,v) else kv))
 | [],ws,h=>by
  have:ws=[]:=by have:=h.1; cases ws with | nil=>rfl | cons a b=>simp at this
  subst this; exact .nil
 | p::kvs,ws,h=>by
  obtain ⟨q,us,rfl,e1,r1,r2⟩:=h.cons_inv
  rw [List.map_cons,List.map_cons]
  obtain ⟨p1,p2⟩:=p
  obtain ⟨q1,q2⟩:=q
  dsimp only at e1 r1 ⊢
  subst e1
  by_cases hk:p1=k
  ·rw [if_pos hk,if_pos hk]; exact .cons rv (RKs.mapSet rv r2)
  ·rw [if_neg hk,if_neg hk]; exact .cons r1 (RKs.mapSet rv r2)
theorem RKs.append {as:List (κ × D)}{bs:List (κ × V)}{cs:List (κ × D)}{ds:List (κ × V)} (h:RKs K H μ as bs) (g:RKs K H μ cs ds):RKs K H μ (as++cs) (bs++ds):=⟨by rw [List.map_append,List.map_append,h.1,g.1],by rw [List.map_append,List.map_append]; exact h.2.append g.2⟩
theorem RKs.put {k:κ}{d:D}{v:V} (rv:RV K H μ d v) {kvs:List (κ × D)}{ws:List (κ × V)} (h:RKs K H μ kvs ws):RKs K H μ (putD kvs k d) (putK ws k v):=by
 unfold putD putK
 rw [h.any (k:=k)]
 by_cases hc:(ws.any fun kv=>decide (kv.1=k))=true
 ·rw [if_pos hc,if_pos hc]; exact h.mapSet rv
 ·rw [if_neg hc,if_neg hc]; exact h.append (.cons rv .nil)
theorem RKs.len {kvs:List (κ × D)}{ws:List (κ × V)} (h:RKs K H μ kvs ws):kvs.length=ws.length:=by
 have:=congrArg List.length h.1
 simpa using this
end
noncomputable def dictAt (S:Store) (n:Nat) (x:D):Option (Option D):=match S[n]? with
 | some (.dk kvs)=>(keyOf x).map fun k=>valD kvs k
 | _=>none
theorem dictAt_ok {K:W.Frag}{H:Hp}{μ:List Addr}{S:Store}{n:Nat}{x:D}{v:V}{a:Addr}{r:Option D} (sr:SR K μ S H) (e:dictAt S n x=some r) (hm:μ[n]?=some a) (rx:RV K H μ x v):∃ o,DGet H a v o∧(∀ d,r=some d→∃ w,o=some w∧RV K H μ d w)∧(r=none→o=none):=by
 unfold dictAt at e
 split at e
 ·rename_i kvs ho
  cases q:keyOf x with
  | none=>rw [q] at e; cases e
  | some k =>
   rw [q] at e; cases e
   obtain ⟨ws,hw,rr⟩:=sr.get hm ho
   have:=keyOf_v q rx
   subst this
   exact ⟨valV ws k,DGet.k hw,(rr.val (k:=k)).1,(rr.val (k:=k)).2⟩
 ·cases e
noncomputable def oIn (neg:Bool):D→D→M D:=fun x y S=>match y with
 | .dct n=>match dictAt S n x with
  | some o=>.ok (.bl (if neg then !o.isSome else o.isSome)) S
  | none=>.bad
 | _=>match seqAt S y,flat x with
  | some ys,some v=>match ys.mapM flat with
   | some vs=>.ok (.bl (if neg then !inV v vs else inV v vs)) S
   | none=>.bad
  | _,_=>.bad
theorem flat_flatV {x:D}{v:V} (h:flat x=some v):flatV v=true:=by
 cases x <;> first | (cases h; rfl) | cases h
theorem flats_flatV:∀ {ds:List D}{vs:List V},ds.mapM flat=some vs→vs.all flatV=true
 | [],vs,e=>by simp at e; subst e; rfl
 | d::ds,vs,e=>by
  rw [List.mapM_cons] at e
  cases q:flat d with
  | none=>rw [q] at e; cases e
  | some w =>
   cases q2:ds.mapM flat with
   | none=>rw [q,q2] at e; cases e
   | some ws' =>
    rw [q,q2] at e; cases e
    rw [List.all_cons,flat_flatV q,flats_flatV q2]; rfl
theorem op_din (hu:X.A.units+1<cLine):OpR X (compareOp .In) (fun y x H Q=>∃ a o,x=.ref a∧DGet H a y o∧Q (.bl o.isSome) H):=by
 intro pins s σ H y x v u Q I ry rx h
 obtain ⟨a,o,rfl,g,q⟩:=h
 obtain rfl:u=Value.ref a:=rx
 exact d_in hu I g ry fun s3 I3=>⟨.bl o.isSome,H,I3,rfl,q⟩
theorem op_dnotin (hu:X.A.units+1<cLine):OpR X (compareOp .NotIn) (fun y x H Q=>∃ a o,x=.ref a∧DGet H a y o∧Q (.bl (!o.isSome)) H):=by
 intro pins s σ H y x v u Q I ry rx h
 obtain ⟨a,o,rfl,g,q⟩:=h
 obtain rfl:u=Value.ref a:=rx
 exact d_notIn hu I g ry fun s3 I3=>⟨.bl (!o.isSome),H,I3,rfl,q⟩
theorem os_in_core {neg:Bool}{op:CmpOp} (h1:OpR X (compareOp op) (rIn X.K neg)) (h2:OpR X (compareOp op) (fun y x H Q=>∃ a o,x=.ref a∧DGet H a y o∧Q (.bl (if neg then !o.isSome else o.isSome)) H))
  : OpS X.K (rAny X (compareOp op)) (oIn neg):=by
 intro x y S d S' H μ v u Q e sr rx ry h
 unfold oIn at e
 split at e
 ·rename_i n
  split at e
  ·rename_i o ho
   cases e
   unfold RV at ry
   obtain ⟨a,rfl,hm⟩:=ry
   obtain ⟨o',g,g1,g2⟩:=dictAt_ok sr ho hm rx
   have e2:o'.isSome=o.isSome:=by
    cases o with
    | none=>simp [g2 rfl]
    | some d=>obtain ⟨w,rfl,_⟩:=g1 d rfl; rfl
   exact ⟨_,h2,a,o',rfl,g,by rw [e2]; exact h.self sr rv_bl⟩
  ·cases e
 ·split at e
  ·rename_i ys w e1 e2
   split at e
   ·rename_i ws e3
    cases e
    obtain ⟨a,vs,rfl,hq,rr⟩:=sr.seq ry e1
    have z1:=flat_v e2 rx
    have z2:=flats_v e3 rr
    subst z1 z2
    exact ⟨_,h1,a,vs,rfl,hq,flat_flatV e2,flats_flatV e3,h.self sr rv_bl⟩
   ·cases e
  ·cases e
theorem os_in (hu:X.A.units+64<cLine):OpS X.K (rAny X (compareOp .In)) (oIn false):=os_in_core op_in_seq (op_din (by omega))
theorem os_notIn (hu:X.A.units+64<cLine):OpS X.K (rAny X (compareOp .NotIn)) (oIn true):=os_in_core op_notIn_seq (op_dnotin (by omega))
end
open PySem PySem.Spec PyProof.Rows
section
variable {X:Cx}
theorem ix_dict (hu:X.A.units+1<cLine):IxR X (fun x y H Q=>∃ a v,x=.ref a∧DGet H a y (some v)∧Q v H):=by
 intro value slice pins s σ H x y v u Q I rx ry h hs
 obtain ⟨a,z,rfl,g,q⟩:=h
 obtain rfl:v=Value.ref a:=rx
 have hT:=dict_typeIs I g
 have h₂:wpAny (model X.prog X.w) X.A (getItem (.ref a) u) (EP X pins σ Q) X.xe s:=d_getItem hu I g ry fun w' s3 I3 rw'=>⟨z,H,I3,rw',q⟩
 unfold subscriptTail
 refine wpAny_bind ?_
 rw [getitemInPython_of_ne hT.not_modules]
 refine wpAny_bind (wpAny_specialOf hT PySem.F.slot_dict_getitem.lookup ?_)
 have fin:wpAny (model X.prog X.w) X.A (subscripted slice false (.ref a) u) (fun r s₃=>wpAny (model X.prog X.w) X.A (letTemporaryGo value (.ref a) r >>= fun _=>pure r) (EP X pins σ Q) X.xe s₃) X.xe s:=by
  rw [hs]
  exact wpAny_operating (wpAny_mono h₂ (fun r s₃ h₃=>wpAny_bind (wpAny_letTemporaryGo (wpAny_pure h₃))) fun _ _ x=>x)
 exact wpAny_pure (wpAny_bind fin)
noncomputable def oIx:D→D→M D:=fun x i S=>match x with
 | .dct n=>match dictAt S n i with
  | some (some d)=>.ok d S
  | _=>.bad
 | _=>match seqAt S x,i with
  | some xs,.int j=>match atI xs j with
   | some d=>.ok d S
   | none=>.bad
  | _,_=>.bad
theorem RVs.at {K:W.Frag}{H:Hp}{μ:List Addr}{ds:List D}{vs:List V}{i:Int}{d:D} (r:RVs K H μ ds vs) (e:atI ds i=some d):∃ v,atI vs i=some v∧RV K H μ d v:=by
 unfold atI at e ⊢
 rw [← r.len]
 cases q:ixN ds.length i with
 | none=>rw [q] at e; cases e
 | some j =>
  rw [q] at e
  obtain ⟨v,e1,e2⟩:=r.get (i:=j) (d:=d) e
  exact ⟨v,e1,e2⟩
theorem os_ix (hu:X.A.units+1<cLine):OpS X.K (ixAnyR X) oIx:=by
 intro x y S d S' H μ v u Q e sr rx ry h
 unfold oIx at e
 split at e
 ·rename_i n
  split at e
  ·rename_i d' ho
   cases e
   unfold RV at rx
   obtain ⟨a,rfl,hm⟩:=rx
   obtain ⟨o,g,g1,_⟩:=dictAt_ok sr ho hm ry
   obtain ⟨w,rfl,rw'⟩:=g1 _ rfl
   exact ⟨_,ix_dict hu,a,w,rfl,g,h.self sr rw'⟩
  ·cases e
 ·split at e
  ·rename_i xs j e1
   split at e
   ·rename_i d' e2
    cases e
    obtain ⟨a,vs,rfl,hq,rr⟩:=sr.seq rx e1
    obtain ⟨w,e3,rw'⟩:=rr.at e2
    unfold RV at ry
    subst ry
    rcases hq with hq | hq
    ·exact ⟨_,ix_list,a,vs,j,w,rfl,rfl,hq,e3,h.self sr rw'⟩
    ·exact ⟨_,ix_tup,a,vs,j,w,rfl,rfl,hq,e3,h.self sr rw'⟩
   ·cases e
  ·cases e
noncomputable def cutD (xs:List D) (lo hi:Option Int):List D:=(xs.drop (HT.sIx xs.length 0 lo)).take (HT.sIx xs.length xs.length hi - HT.sIx xs.length 0 lo)
noncomputable def oSl:D→Option Int→Option Int→M D:=fun x lo hi S=>match x with
 | .tup xs=>.ok (.tup (cutD xs lo hi)) S
 | .lst n=>match lstAt S n with
  | some xs=>.ok (.lst S.length) (S++[.lst (cutD xs lo hi)])
  | none=>.bad
 | _=>.bad
theorem RVs.cut {K:W.Frag}{H:Hp}{μ:List Addr}{ds:List D}{vs:List V} (r:RVs K H μ ds vs) (lo hi:Option Int):RVs K H μ (cutD ds lo hi) (cutV vs lo hi):=by
 unfold cutD cutV
 rw [r.len]
 exact (r.drop _).take _
theorem ss_sl:SlS X.K (slAnyR X) oSl:=by
 intro x lo hi S d S' H μ v Q e sr rx h
 unfold oSl at e
 split at e
 ·cases e
  unfold RV at rx
  obtain ⟨p,vs,rfl,q,rr⟩:=rx
  exact ⟨_,sl_tup2,p,vs,rfl,q,fun p2 H1 sm sq=>h.oldT sr sm sq (rr.cut lo hi)⟩
 ·split at e
  ·rename_i xs e1
   cases e
   unfold RV at rx
   obtain ⟨a,rfl,hm⟩:=rx
   obtain ⟨vs,q,rr⟩:=sr.sq hm e1
   exact ⟨_,sl_list,a,vs,rfl,q,fun p hp=>h.newL sr hp (rr.cut lo hi)⟩
  ·cases e
 ·cases e
noncomputable def oRev:D→D→M D:=fun x y S=>match x,y with
 | .tup xs,.int j=>if j=-1 then .ok (.tup xs.reverse) S else .bad
 | _,_=>.bad
theorem RVs.reverse {K:W.Frag}{H:Hp}{μ:List Addr}:∀ {ds:List D}{vs:List V},RVs K H μ ds vs→RVs K H μ ds.reverse vs.reverse
 | [],vs,r=>by rw [r.nil_inv]; exact .nil
 | d::ds,vs,r=>by
  obtain ⟨v,ws,rfl,r1,r2⟩:=r.cons_inv
  rw [List.reverse_cons,List.reverse_cons]
  exact r2.reverse.append (.cons r1 .nil)
noncomputable def fLen:List D→M D:=fun xs S=>match xs with
 | [.str x]=>if x.length≤lim then .ok (.int x.length) S else .bad
 | [.dct n]=>.bad
 | [x]=>match seqAt S x with
  | some ys=>.ok (.int ys.length) S
  | none=>.bad
 | _=>.bad
theorem RVs.one {K:W.Frag}{H:Hp}{μ:List Addr}{d:D}{vs:List V} (h:RVs K H μ [d] vs):∃ v,vs=[v]∧RV K H μ d v:=by
 obtain ⟨v,ws,rfl,r1,r2⟩:=h.cons_inv
 rw [r2.nil_inv]
 exact ⟨v,rfl,r1⟩
theorem RVs.two {K:W.Frag}{H:Hp}{μ:List Addr}{d e:D}{vs:List V} (h:RVs K H μ [d,e] vs):∃ v u,vs=[v,u]∧RV K H μ d v∧RV K H μ e u:=by
 obtain ⟨v,ws,rfl,r1,r2⟩:=h.cons_inv
 obtain ⟨u,rfl,r3⟩:=r2.one
 exact ⟨v,u,rfl,r1,r3⟩
noncomputable def fRepr:List D→M D:=fun xs S=>match xs with
 | [.int i]=>if i.natAbs<1000000000000000000 then .ok (.str (toString i)) S else .bad
 | [.tup ys]=>match snap 40 S (.tup ys) with
  | some p=>if p.showable=true∧p.hasDict=false∧p.shown.length≤sizeLine then .ok (.str p.shown) S else .bad
  | none=>.bad
 | [.lst k]=>match snap 40 S (.lst k) with
  | some p=>if p.showable=true∧p.hasDict=false∧p.shown.length≤sizeLine then .ok (.str p.shown) S else .bad
  | none=>.bad
 | _=>.bad
theorem cs_len:CallS X.K (cAny X (.builtin "len")) fLen:=by
 intro xs S d S' H μ vs Q e sr rx h
 unfold fLen at e
 split at e
 ·split at e
  ·rename_i hl; cases e
   obtain ⟨v,rfl,r⟩:=rx.one
   unfold RV at r; subst r
   exact ⟨_,call_len_str,_,rfl,lim_le hl,h.self sr rv_int⟩
  ·cases e
 ·cases e
 ·split at e
  ·rename_i ys e1
   cases e
   obtain ⟨v,rfl,r⟩:=rx.one
   obtain ⟨a,vs,rfl,hq,rr⟩:=sr.seq r e1
   exact ⟨_,call_len_seq,a,vs,rfl,hq,by rw [← rr.len]; exact h.self sr rv_int⟩
  ·cases e
 ·cases e
noncomputable def fMin:List D→M D:=fun xs S=>match xs with
 | [.int i,.int j]=>.ok (.int (if j<i then j else i)) S
 | _=>.bad
noncomputable def fMax:List D→M D:=fun xs S=>match xs with
 | [.int i,.int j]=>.ok (.int (if j>i then j else i)) S
 | _=>.bad
theorem cs_min (hc:X.calm=true):CallS X.K (cAny X (.builtin "min")) fMin:=by
 intro xs S d S' H μ vs Q e sr rx h
 unfold fMin at e
 split at e
 ·cases e
  obtain ⟨v,u,rfl,r1,r2⟩:=rx.two
  unfold RV at r1 r2; subst r1 r2
  exact ⟨_,call_min2 hc,_,_,rfl,h.self sr rv_int⟩
 ·cases e
theorem cs_max (hc:X.calm=true):CallS X.K (cAny X (.builtin "max")) fMax:=by
 intro xs S d S' H μ vs Q e sr rx h
 unfold fMax at e
 split at e
 ·cases e
  obtain ⟨v,u,rfl,r1,r2⟩:=rx.two
  unfold RV at r1 r2; subst r1 r2
  exact ⟨_,call_max2 hc,_,_,rfl,h.self sr rv_int⟩
 ·cases e
noncomputable def fList:List D→M D:=fun xs S=>match xs with
 | [x]=>match seqAt S x with
  | some ys=>.ok (.lst S.length) (S++[.lst ys])
  | none=>.bad
 | _=>.bad
theorem cs_list:CallS X.K (cAny X (.type "list")) fList:=by
 intro xs S d S' H μ vs Q e sr rx h
 unfold fList at e
 split at e
 ·split at e
  ·rename_i ys e1
   cases e
   obtain ⟨v,rfl,r⟩:=rx.one
   obtain ⟨a,vs,rfl,hq,rr⟩:=sr.seq r e1
   exact ⟨_,call_list_of,a,vs,rfl,hq,fun l hl=>h.newL sr hl rr⟩
  ·cases e
 ·cases e
noncomputable def fTuple:List D→M D:=fun xs S=>match xs with
 | [.tup ys]=>.ok (.tup ys) S
 | [.lst n]=>match lstAt S n with
  | some ys=>.ok (.tup ys) S
  | none=>.bad
 | _=>.bad
theorem cs_tuple:CallS X.K (cAny X (.type "tuple")) fTuple:=by
 intro xs S d S' H μ vs Q e sr rx h
 unfold fTuple at e
 split at e
 ·cases e
  obtain ⟨v,rfl,r⟩:=rx.one
  have r':=r
  unfold RV at r'; obtain ⟨p,ws,rfl,q,rr⟩:=r'
  exact ⟨_,call_tuple_of,p,ws,rfl,.inr ⟨SqT.of q,h.self sr r⟩⟩
 ·split at e
  ·rename_i ys e1
   cases e
   obtain ⟨v,rfl,r⟩:=rx.one
   unfold RV at r; obtain ⟨a,rfl,hm⟩:=r
   obtain ⟨ws,q,rr⟩:=sr.sq hm e1
   exact ⟨_,call_tuple_of,a,ws,rfl,.inl ⟨q,fun l hl=>h.newT sr hl rr⟩⟩
  ·cases e
 ·cases e
noncomputable def fInt:List D→M D:=fun xs S=>match xs with
 | [.int i]=>.ok (.int i) S
 | [.bl b]=>.ok (.int (if b then 1 else 0)) S
 | _=>.bad
theorem cs_int:CallS X.K (cAny X (.type "int")) fInt:=by
 intro xs S d S' H μ vs Q e sr rx h
 unfold fInt at e
 split at e
 ·cases e
  obtain ⟨v,rfl,r⟩:=rx.one
  unfold RV at r; subst r
  exact ⟨_,call_int1,.inl ⟨_,rfl,h.self sr rv_int⟩⟩
 ·cases e
  obtain ⟨v,rfl,r⟩:=rx.one
  unfold RV at r; subst r
  exact ⟨_,call_int1,.inr ⟨_,rfl,h.self sr rv_int⟩⟩
 ·cases e
noncomputable def dictK (S:Store) (n:Nat):Option String:=match S[n]? with
 | some (.dk _)=>some "dict"
 | _=>none
noncomputable def kindD (S:Store):D→Option String
 | .non=>some "NoneType"
 | .bl _=>some "bool"
 | .int _=>some "int"
 | .str _=>some "str"
 | .tup _=>some "tuple"
 | .lst n=>if (lstAt S n).isSome then some "list" else none
 | .dct n=>dictK S n
 | _=>none
noncomputable def fInst:List D→M D:=fun xs S=>match xs with
 | [x,.ty T]=>match kindD S x with
  | some t=>if T∈["bool","int","tuple","list","str","dict"] then .ok (.bl (kOf t T)) S else .bad
  | none=>.bad
 | _=>.bad
theorem kind_ok {K:W.Frag}{H:Hp}{μ:List Addr}{S:Store}{x:D}{v:V}{t:String} (sr:SR K μ S H) (e:kindD S x=some t) (r:RV K H μ x v):Ty2 K H v t∧t∈["NoneType","bool","int","str","tuple","list","dict"]:=by
 cases x with
 | non=>cases e; unfold RV at r; subst r; exact ⟨.non,by decide⟩
 | bl b=>cases e; unfold RV at r; subst r; exact ⟨.bl b,by decide⟩
 | int i=>cases e; unfold RV at r; subst r; exact ⟨.int i,by decide⟩
 | str i=>cases e; unfold RV at r; subst r; exact ⟨.str i,by decide⟩
 | tup xs=>cases e; unfold RV at r; obtain ⟨p,vs,rfl,q,_⟩:=r; exact ⟨.tup (SqT.of q),by decide⟩
 | lst n =>
  have e:(if (lstAt S n).isSome then some "list" else none)=some t:=e
  split at e
  ·rename_i hs
   cases e
   obtain ⟨xs,hx⟩:=Option.isSome_iff_exists.mp hs
   unfold RV at r; obtain ⟨a,rfl,hm⟩:=r
   obtain ⟨vs,q,_⟩:=sr.sq hm hx
   exact ⟨.lst q,by decide⟩
  ·cases e
 | dct n =>
  have e:dictK S n=some t:=e
  unfold dictK at e
  split at e
  ·rename_i kvs ho
   cases e
   unfold RV at r; obtain ⟨a,rfl,hm⟩:=r
   obtain ⟨ws,hw,_⟩:=sr.get hm ho
   exact ⟨.dk hw,by decide⟩
  ·cases e
 | ty n=>cases e
 | rol n=>cases e
theorem cs_inst:CallS X.K (cAny X (.builtin "isinstance")) fInst:=by
 intro xs S d S' H μ vs Q e sr rx h
 unfold fInst at e
 split at e
 ·rename_i x T
  split at e
  ·rename_i t e1
   split at e
   ·rename_i hT
    cases e
    obtain ⟨v,u,rfl,r1,r2⟩:=rx.two
    unfold RV at r2; subst r2
    obtain ⟨k1,k2⟩:=kind_ok sr e1 r1
    exact ⟨_,call_isinst2,v,t,T,_,rfl,k1,kit_all2 X.K t k2 T hT,h.self sr rv_bl⟩
   ·cases e
  ·cases e
 ·cases e
noncomputable def boolsOf:List D→Option (List Bool)
 | []=>some []
 | .bl b::r=>(boolsOf r).map (b::·)
 | _::_=>none
theorem boolsOf_vs {K:W.Frag}{H:Hp}{μ:List Addr}:∀ {ds:List D}{ns:List Bool}{vs:List V},boolsOf ds=some ns→RVs K H μ ds vs→vs=ns.map V.bl
 | [],ns,vs,e,r=>by cases e; rw [r.nil_inv]; rfl
 | .bl i::ds,ns,vs,e,r=>by
  obtain ⟨v,ws,rfl,r1,r2⟩:=r.cons_inv
  unfold boolsOf at e
  cases q:boolsOf ds with
  | none=>rw [q] at e; cases e
  | some ms =>
   rw [q] at e; cases e
   unfold RV at r1; subst r1
   rw [boolsOf_vs q r2]; rfl
 | .non::ds,ns,vs,e,r=>by cases e
 | .int _::ds,ns,vs,e,r=>by cases e
 | .str _::ds,ns,vs,e,r=>by cases e
 | .ty _::ds,ns,vs,e,r=>by cases e
 | .tup _::ds,ns,vs,e,r=>by cases e
 | .lst _::ds,ns,vs,e,r=>by cases e
 | .dct _::ds,ns,vs,e,r=>by cases e
 | .rol _::ds,ns,vs,e,r=>by cases e
noncomputable def fBools (g:List Bool→Bool):List D→M D:=fun xs S=>match xs with
 | [.tup ys]=>match intsOf ys with
  | some ns=>.ok (.bl (g (ns.map (· != 0)))) S
  | none=>.bad
 | [.lst n]=>match (lstAt S n).bind boolsOf with
  | some bs=>.ok (.bl (g bs)) S
  | none=>.bad
 | _=>.bad
theorem cs_bools {id:String}{g:List Bool→Bool} (hr:CallR X (.builtin id) (fun vs H Q=>∃ (p:Addr) (bs:List Bool),vs=[.ref p]∧SqL X.K H p (bs.map V.bl)∧Q (.bl (g bs)) H)) (hr2:CallR X (.builtin id) (fun vs H Q=>∃ (p:Addr) (ns:List Int),vs=[.ref p]∧SqT X.K H p (ns.map V.int)∧Q (.bl (g (ns.map (· != 0)))) H)):CallS X.K (cAny X (.builtin id)) (fBools g):=by
 intro xs S d S' H μ vs Q e sr rx h
 unfold fBools at e
 split at e
 ·split at e
  ·rename_i ns e1
   cases e
   obtain ⟨v,rfl,r⟩:=rx.one
   unfold RV at r; obtain ⟨a,ws,rfl,q,rr⟩:=r
   have z:=intsOf_vs e1 rr
   subst z
   exact ⟨_,hr2,a,ns,rfl,SqT.of q,h.self sr rv_bl⟩
  ·cases e
 ·split at e
  ·rename_i bs e1
   cases e
   obtain ⟨ys,e2,e3⟩:=Option.bind_eq_some_iff.mp e1
   obtain ⟨v,rfl,r⟩:=rx.one
   unfold RV at r; obtain ⟨a,rfl,hm⟩:=r
   obtain ⟨ws,q,rr⟩:=sr.sq hm e2
   have z:=boolsOf_vs e3 rr
   subst z
   exact ⟨_,hr,a,bs,rfl,q,h.self sr rv_bl⟩
  ·cases e
 ·cases e
theorem CallR.imp {f:Value}{r r':List V→Hp→VK→Prop} (h:CallR X f r) (w:∀ vs H Q,r' vs H Q→r vs H Q):CallR X f r':=fun pins s σ H xs us Q I rv q=>h pins s σ H xs us Q I rv (w _ _ _ q)
theorem cs_all (hc:X.calm=true):CallS X.K (cAny X (.builtin "all")) (fBools fun bs=>bs.all id):=cs_bools (call_allL hc) ((call_allT hc).imp fun vs H Q ⟨p,ns,h1,h2,h3⟩=>⟨p,ns,h1,h2,by rw [List.all_map] at h3; exact h3⟩)
theorem cs_any (hc:X.calm=true):CallS X.K (cAny X (.builtin "any")) (fBools fun bs=>bs.any id):=cs_bools (call_anyL hc) ((call_anyT hc).imp fun vs H Q ⟨p,ns,h1,h2,h3⟩=>⟨p,ns,h1,h2,by rw [List.any_map] at h3; exact h3⟩)
def MtS (K:W.Frag) (T:String) (r:V→List V→Hp→VK→Prop) (o:D→List D→M D):Prop:=∀ x xs S d S' H μ v vs Q,o x xs S=.ok d S'→SR K μ S H→RV K H μ x v→RVs K H μ xs vs→Yld K μ H d S' Q→r v vs H Q
noncomputable def tyOk (T:String) (x:D) (S:Store):Bool:=match x with
 | .lst n=>decide (T = "list")&&(lstAt S n).isSome
 | .dct n=>decide (T = "dict")&&(match S[n]? with | some (.dk _)=>true | some (.dt _)=>true | _=>false)
 | .int _=>decide (T = "int")
 | .str _=>decide (T = "str")
 | _=>false
theorem tyOk_v {K:W.Frag}{H:Hp}{μ:List Addr}{S:Store}{T:String}{x:D}{v:V} (sr:SR K μ S H) (h:tyOk T x S=true) (r:RV K H μ x v):tyV K T v H:=by
 unfold tyOk at h
 split at h
 ·simp only [Bool.and_eq_true,decide_eq_true_eq] at h
  obtain ⟨h1,h2⟩:=h
  obtain ⟨xs,hx⟩:=Option.isSome_iff_exists.mp h2
  unfold RV at r; obtain ⟨a,rfl,hm⟩:=r
  obtain ⟨vs,q,_⟩:=sr.sq hm hx
  exact .inl ⟨h1,vs,q⟩
 ·simp only [Bool.and_eq_true,decide_eq_true_eq] at h
  obtain ⟨h1,h2⟩:=h
  unfold RV at r; obtain ⟨a,rfl,hm⟩:=r
  split at h2
  ·rename_i kvs ho
   obtain ⟨ws,q,_⟩:=sr.get hm ho
   exact .inr (.inr (.inl ⟨h1,.inl ⟨ws,q⟩⟩))
  ·rename_i kvs ho
   obtain ⟨ws,q,_⟩:=sr.get hm ho
   exact .inr (.inr (.inl ⟨h1,.inr ⟨ws,q⟩⟩))
  ·cases h2
 ·unfold RV at r; subst r
  exact (of_decide_eq_true h:T = "int")
 ·unfold RV at r; subst r
  exact (of_decide_eq_true h:T = "str")
 ·cases h
noncomputable def cMeth (T:String) (o:D→List D→M D) (a:C) (as:CA):C:=fun ρ=>bnd (a ρ) fun x S=>if tyOk T x S then bnd (as ρ) (fun xs=>o x xs) S else .bad
variable {o e:Expr}{es:List Expr}{co:C}{ca:CA}{name:Str}{apos cpos:Pos}{T id:String}{m:D→List D→M D}
theorem se_meth (pa:PlainAttrs T) (slot:Slot T name id) (hty:typeOf (.builtin id)=pure (.type "method_descriptor")) (hm:MtS X.K T (mtAnyR X id) m) (ho:PE X o (tOf X.K co)) (ha:PA X (e::es) (tOfA X.K ca))
  (hbase:attributeBase o name X.env (eval o X.env)=eval o X.env)
  (hfew:((backTo cpos (starEach (e::es) X.env)).all (fun x=>!x.1)&&(backToKw cpos (keywordEach [] X.env)).all (fun x=>x.1.isSome)
   && decide ((e::es).length+([]:List Keyword).length+(if ([]:List Keyword).isEmpty then 0 else 1)<30))=true)
  (hline:(apos.endLine == cpos.line)=true) (hs:starEach (e::es) X.env=(false,eval e X.env)::starEach es X.env) (hplain:(backTo cpos (starEach es X.env)).any (·.1)=false) :
  PE X (.Call (.Attribute o name apos) (e::es) [] cpos) (tOf X.K (cMeth T m co ca)):=(pe_bm pa slot hty mtAny ho ha hbase hfew hline hs hplain).weak (by
 rintro σ H Q ⟨μ,ρ,S,d,S',sr,re,e,y⟩
 obtain ⟨x,S1,e1,e⟩:=bnd_ok e
 split at e
 ·rename_i hk
  obtain ⟨xs,S2,e2,e⟩:=bnd_ok e
  refine ⟨μ,ρ,S,x,S1,sr,re,e1,fun v H1 μ1 sr1 st1 r1=>⟨tyOk_v sr1 hk r1,μ1,ρ,S1,xs,S2,sr1,re.up st1,e2,fun vs H2 μ2 sr2 st2 r2=>?_⟩⟩
  exact hm x xs S2 d S' H2 μ2 v vs Q e sr2 (RV.up st2.tk st2.ext _ _ r1) r2 (y.shift (st1.trans st2 sr2.nd))
 ·cases e)
noncomputable def cMeth0 (T:String) (o:D→List D→M D) (a:C):C:=fun ρ=>bnd (a ρ) fun x S=>if tyOk T x S then o x [] S else .bad
theorem se_meth0 (pa:PlainAttrs T) (slot:Slot T name id) (hty:typeOf (.builtin id)=pure (.type "method_descriptor")) (hm:MtS X.K T (mtAnyR X id) m) (ho:PE X o (tOf X.K co))
  (hbase:attributeBase o name X.env (eval o X.env)=eval o X.env) (hline:(apos.endLine == cpos.line)=true):PE X (.Call (.Attribute o name apos) [] [] cpos) (tOf X.K (cMeth0 T m co)):=(pe_bm0 pa slot hty mtAny ho hbase hline).weak (by
 rintro σ H Q ⟨μ,ρ,S,d,S',sr,re,e,y⟩
 obtain ⟨x,S1,e1,e⟩:=bnd_ok e
 split at e
 ·rename_i hk
  exact ⟨μ,ρ,S,x,S1,sr,re,e1,fun v H1 μ1 sr1 st1 r1=>⟨tyOk_v sr1 hk r1,hm x [] S1 d S' H1 μ1 v [] Q e sr1 r1 RVs.nil (y.shift st1)⟩⟩
 ·cases e)
noncomputable def mList (g:List D→List D→Option (List D × D)):D→List D→M D:=fun x xs S=>match x with
 | .lst n=>match S[n]? with
  | some (.lst ys)=>match g ys xs with
   | some (zs,d)=>.ok d (S.set n (.lst zs))
   | none=>.bad
  | _=>.bad
 | _=>.bad
theorem SR.putL {K:W.Frag}{H:Hp}{μ:List Addr}{S:Store}{n:Nat}{p:Addr}{vs ws:List V}{zs:List D} (sr:SR K μ S H) (hn:μ[n]?=some p) (hp:H p=some (.lst vs)) (r:RVs K H μ zs ws):SR K μ (S.set n (.lst zs)) (upd H p (.lst ws))∧Step K μ μ H (upd H p (.lst ws)) :=
 sr.put hn hp (fun _ z=>by cases z) (fun _ _ z=>by cases z) ⟨ws,upd_same,RVs.up (tf_lst hp) ⟨[],by simp⟩ _ _ r⟩
theorem ms_list {g:List D→List D→Option (List D × D)}
  (h:∀ (K:W.Frag) H μ ys xs zs d vs us,g ys xs=some (zs,d)→RVs K H μ ys vs→RVs K H μ xs us→∃ ws w,RVs K H μ zs ws∧RV K H μ d w∧∀ (p:Addr) (Q:VK),H p=some (.lst vs)→Q w (upd H p (.lst ws))→mtAnyR X id (.ref p) us H Q):MtS X.K "list" (mtAnyR X id) (mList g):=by
 intro x xs S d S' H μ v us Q e sr rx rs y
 unfold mList at e
 split at e
 ·rename_i n
  split at e
  ·rename_i ys ho
   split at e
   ·rename_i zs d' hg
    cases e
    unfold RV at rx; obtain ⟨p,rfl,hm⟩:=rx
    obtain ⟨vs,hp,rr⟩:=sr.lst hm ho
    obtain ⟨ws,w,r1,r2,fin⟩:=h X.K H μ ys xs zs d vs us hg rr rs
    obtain ⟨s1,s2⟩:=sr.putL hm hp r1
    exact fin p Q hp (y w _ μ s1 s2 (RV.up s2.tk s2.ext _ _ r2))
   ·cases e
  ·cases e
 ·cases e
noncomputable def gAppend:List D→List D→Option (List D × D):=fun ys xs=>match xs with
 | [x]=>if ys.length<lim then some (ys++[x],.non) else none
 | _=>none
theorem ms_append:MtS X.K "list" (mtAnyR X "list.append") (mList gAppend):=ms_list fun K H μ ys xs zs d vs us e r1 r2=>by
 unfold gAppend at e
 split at e
 ·split at e
  ·rename_i hl; cases e
   obtain ⟨v,rfl,r3⟩:=r2.one
   exact ⟨vs++[v],.non,r1.append (.cons r3 .nil),rv_non,fun p Q hp q=>⟨_,mt_append,p,vs,v,rfl,rfl,hp,by rw [← r1.len]; exact lim_lt hl,q⟩⟩
  ·cases e
 ·cases e
noncomputable def gInsert:List D→List D→Option (List D × D):=fun ys xs=>match xs with
 | [.int i,x]=>if ys.length<1000∧0≤i∧i.toNat≤ys.length then some (ys.take i.toNat++x::ys.drop i.toNat,.non) else none
 | _=>none
theorem ms_insert:MtS X.K "list" (mtAnyR X "list.insert") (mList gInsert):=ms_list fun K H μ ys xs zs d vs us e r1 r2=>by
 unfold gInsert at e
 split at e
 ·rename_i i x
  split at e
  ·rename_i hl; cases e
   obtain ⟨h1,h2,h3⟩:=hl
   obtain ⟨v,u,rfl,r3,r4⟩:=r2.two
   unfold RV at r3; subst r3
   have ei:i=((i.toNat:Nat):Int):=by omega
   exact ⟨vs.take i.toNat++u::vs.drop i.toNat,.non,(r1.take _).append (.cons r4 (r1.drop _)),rv_non,fun p Q hp q=>⟨_,mt_insert,p,vs,i.toNat,u,rfl,by rw [← ei],hp,by rw [← r1.len]; exact h1,by rw [← r1.len]; exact h3,q⟩⟩
  ·cases e
 ·cases e
noncomputable def mBits:D→List D→M D:=fun x xs S=>match x,xs with
 | .int i,[]=>.ok (.int ((Builtin.Int.intBits i:Nat):Int)) S
 | _,_=>.bad
theorem ms_bits:MtS X.K "int" (mtAnyR X "int.bit_length") mBits:=by
 intro x xs S d S' H μ v us Q e sr rx rs y
 unfold mBits at e
 split at e
 ·cases e
  unfold RV at rx; subst rx
  exact ⟨_,mt_bits,_,rfl,rs.nil_inv,y.self sr rv_int⟩
 ·cases e
noncomputable def oSet:D→D→D→Store→Option Store:=fun x i v S=>match x with
 | .lst n=>match S[n]?,i with
  | some (.lst ys),.int k=>match ixN ys.length k with
   | some j=>some (S.set n (.lst (ys.set j v)))
   | none=>none
  | _,_=>none
 | .dct n=>match S[n]?,keyOf i with
  | some (.dk kvs),some k=>if kvs.length<lim then some (S.set n (.dk (putD kvs k v))) else none
  | _,_=>none
 | _=>none
theorem set_dict (hu:X.A.units+1<cLine):PSet X (fun o i v H Q=>∃ a H4,o=.ref a∧DPut H a i v H4∧Q H4):=by
 intro pins s σ H o i v ov iv u Q I ro ri rv h
 obtain ⟨a,H4,rfl,g,q⟩:=h
 obtain rfl:ov=Value.ref a:=ro
 exact d_setItem hu I g ri rv fun s4 I4=>⟨H4,I4,q⟩
theorem ps_sets (hu:X.A.units+1<cLine) {x i v:D}{S S':Store}{H:Hp}{μ:List Addr}{ov iv vv:V}{Q:Hp→Prop} (e:oSet x i v S=some S') (sr:SR X.K μ S H) (rx:RV X.K H μ x ov) (ri:RV X.K H μ i iv) (rv:RV X.K H μ v vv) (y:∀ H' ,SR X.K μ S' H'→Step X.K μ μ H H'→Q H'):setAnyR X ov iv vv H Q:=by
 unfold oSet at e
 split at e
 ·split at e
  ·rename_i ys k ho
   split at e
   ·rename_i j hj
    cases e
    unfold RV at rx ri; obtain ⟨p,rfl,hm⟩:=rx; subst ri
    obtain ⟨vs,hp,rr⟩:=sr.lst hm ho
    obtain ⟨s1,s2⟩:=sr.putL hm hp (rr.set rv j)
    exact ⟨_,set_list,p,vs,k,j,rfl,rfl,hp,by rw [← rr.len]; exact hj,y _ s1 s2⟩
   ·cases e
  ·cases e
 ·split at e
  ·rename_i kvs k ho hk
   split at e
   ·rename_i hl
    cases e
    unfold RV at rx; obtain ⟨p,rfl,hm⟩:=rx
    obtain ⟨ws,hp,rr⟩:=sr.get hm ho
    have z:=keyOf_v hk ri
    subst z
    have tk:TF X.K H (upd H p (.dK (putK ws k vv))):=tf_upd hp (fun _ z=>by cases z) (fun _ _ z=>by cases z)
    obtain ⟨s1,s2⟩:=sr.put (o:=.dK (putK ws k vv)) (o':=.dk (putD kvs k v)) hm hp (fun _ z=>by cases z) (fun _ _ z=>by cases z) ⟨_,upd_same,(rr.put rv).up tk ⟨[],by simp⟩⟩
    exact ⟨_,set_dict hu,p,_,rfl,DPut.k hp (by rw [← rr.len]; exact lim_lt hl),y _ s1 s2⟩
   ·cases e
  ·cases e
 ·cases e
end
open PySem PySem.Spec PyProof.Rows
inductive RS where
 | bad | nx (ρ:Env1) (S:Store) | rt (d:D) (S:Store) | bk (ρ:Env1) (S:Store) | ct (ρ:Env1) (S:Store) | er (c:Str) (S:Store)
noncomputable abbrev CS:=Env1→Store→RS
noncomputable def PostS (X:Cx) (μ:List Addr) (H:Hp) (E:Ends):RS→Prop
 | .bad=>False
 | .er _ _=>False
 | .nx ρ' S'=>∀ σ' H' μ',SR X.K μ' S' H'→Step X.K μ μ' H H'→RE X.K H' μ' ρ' σ'→E.nx σ' H'
 | .bk ρ' S'=>∀ σ' H' μ',SR X.K μ' S' H'→Step X.K μ μ' H H'→RE X.K H' μ' ρ' σ'→E.bk σ' H'
 | .ct ρ' S'=>∀ σ' H' μ',SR X.K μ' S' H'→Step X.K μ μ' H H'→RE X.K H' μ' ρ' σ'→E.ct σ' H'
 | .rt d S'=>Yld X.K μ H d S' E.rt
inductive tOfS (X:Cx) (c:CS) (E:Ends) (σ:St) (H:Hp):Prop
 | mk (μ:List Addr) (ρ:Env1) (S:Store) (sr:SR X.K μ S H) (re:RE X.K H μ ρ σ) (y:PostS X μ H E (c ρ S))
theorem PostS.shift {X:Cx}{μ μ1:List Addr}{H H1:Hp}{E:Ends}{r:RS} (h:PostS X μ H E r) (st:Step X.K μ μ1 H H1):PostS X μ1 H1 E r:=by
 cases r with
 | bad=>exact h
 | er _ _=>exact h
 | nx ρ S=>exact fun σ' H' μ' sr s2 re=>h σ' H' μ' sr (st.trans s2 sr.nd) re
 | bk ρ S=>exact fun σ' H' μ' sr s2 re=>h σ' H' μ' sr (st.trans s2 sr.nd) re
 | ct ρ S=>exact fun σ' H' μ' sr s2 re=>h σ' H' μ' sr (st.trans s2 sr.nd) re
 | rt d S=>exact Yld.shift h st
noncomputable def sPass:CS:=fun ρ S=>.nx ρ S
noncomputable def sBrk:CS:=fun ρ S=>.bk ρ S
noncomputable def sCnt:CS:=fun ρ S=>.ct ρ S
noncomputable def sBad:CS:=fun _ _=>.bad
noncomputable def sRetN:CS:=fun _ S=>.rt .non S
noncomputable def sRet (c:C):CS:=fun ρ S=>match c ρ S with
 | .ok d S'=>.rt d S'
 | .bad=>.bad
 | .er _ _=>.bad
noncomputable def sExpr (c:C):CS:=fun ρ S=>match c ρ S with
 | .ok _ S'=>.nx ρ S'
 | .bad=>.bad
 | .er _ _=>.bad
noncomputable def sSeq (a b:CS):CS:=fun ρ S=>match a ρ S with
 | .nx ρ' S'=>b ρ' S'
 | r=>r
noncomputable def sIf (t:CT) (a b:CS):CS:=fun ρ S=>match t ρ S with
 | .ok k S'=>if k then a ρ S' else b ρ S'
 | .bad=>.bad
 | .er _ _=>.bad
noncomputable abbrev G:=D→Env1→M Env1
noncomputable def sAsg (c:C) (g:G):CS:=fun ρ S=>match c ρ S with
 | .ok d S'=>match g d ρ S' with
  | .ok ρ' S2=>.nx ρ' S2
  | .bad=>.bad
  | .er _ _=>.bad
 | .bad=>.bad
 | .er _ _=>.bad
section
variable {X:Cx}{e a b tg:Expr}{ce ca cb:C}{pos:Pos}
theorem ss_pass:PS X (.Pass pos) (tOfS X sPass):=ps_pass.weak fun E σ H ⟨μ,ρ,S,sr,re,p⟩=>p σ H μ sr (Step.refl _ _ _) re
theorem ss_brk:PS X (.Break pos) (tOfS X sBrk):=ps_break.weak fun E σ H ⟨μ,ρ,S,sr,re,p⟩=>p σ H μ sr (Step.refl _ _ _) re
theorem ss_cnt:PS X (.Continue pos) (tOfS X sCnt):=ps_continue.weak fun E σ H ⟨μ,ρ,S,sr,re,p⟩=>p σ H μ sr (Step.refl _ _ _) re
theorem ss_bad {st:Stmt}:PS X st (tOfS X sBad):=ps_never.weak fun E σ H ⟨μ,ρ,S,sr,re,p⟩=>p
theorem ss_retN:PS X (.Return none pos) (tOfS X sRetN):=ps_retN.weak fun E σ H ⟨μ,ρ,S,sr,re,p⟩=>p _ H μ sr (Step.refl _ _ _) rv_non
theorem ss_ret (he:PE X e (tOf X.K ce)):PS X (.Return (some e) pos) (tOfS X (sRet ce)):=(ps_ret he).weak (by
 rintro E σ H ⟨μ,ρ,S,sr,re,p⟩
 unfold sRet at p
 split at p
 ·rename_i d S' h
  exact ⟨μ,ρ,S,d,S',sr,re,h,p⟩
 ·exact False.elim p
 ·exact False.elim p)
theorem ss_expr (he:PE X e (tOf X.K ce)) (hs:swapsWith e none pos.line X.env=pure false):PS X (.Expr e pos) (tOfS X (sExpr ce)):=(ps_expr he hs).weak (by
 rintro E σ H ⟨μ,ρ,S,sr,re,p⟩
 unfold sExpr at p
 split at p
 ·rename_i d S' h
  exact ⟨μ,ρ,S,d,S',sr,re,h,fun v H1 μ1 sr1 st1 r1=>p σ H1 μ1 sr1 st1 (re.up st1)⟩
 ·exact False.elim p
 ·exact False.elim p)
theorem sss_nil:PSs X [] (tOfS X sPass):=pss_nil.weak fun E σ H ⟨μ,ρ,S,sr,re,p⟩=>p σ H μ sr (Step.refl _ _ _) re
theorem sss_cons {st:Stmt}{rest:List Stmt}{c1 c2:CS} (h1:PS X st (tOfS X c1)) (h2:PSs X rest (tOfS X c2)):PSs X (st::rest) (tOfS X (sSeq c1 c2)):=(pss_cons h1 h2).weak (by
 rintro E σ H ⟨μ,ρ,S,sr,re,p⟩
 refine ⟨μ,ρ,S,sr,re,?_⟩
 unfold sSeq at p
 revert p
 cases c1 ρ S with
 | nx ρ' S'=>exact fun p σ' H' μ' sr' st' re'=>⟨μ',ρ',S',sr',re',p.shift st'⟩
 | bad=>exact fun p=>p
 | er _ _=>exact fun p=>p
 | rt _ _=>exact fun p=>p
 | bk _ _=>exact fun p=>p
 | ct _ _=>exact fun p=>p)
theorem ss_if {t:Expr}{ct:CT}{as bs:List Stmt}{c1 c2:CS} (ht:PT X t (tOfT X.K ct)) (h1:PSs X as (tOfS X c1)) (h2:PSs X bs (tOfS X c2)):PS X (.If t as bs pos) (tOfS X (sIf ct c1 c2)):=(ps_if ht h1 h2).weak (by
 rintro E σ H ⟨μ,ρ,S,sr,re,p⟩
 unfold sIf at p
 split at p
 ·rename_i k S' h
  refine ⟨μ,ρ,S,k,S',sr,re,h,fun H1 μ1 sr1 st1=>?_⟩
  cases k with
  | true=>rw [if_pos rfl] at p ⊢; exact ⟨μ1,ρ,S',sr1,re.up st1,p.shift st1⟩
  | false=>rw [if_neg Bool.false_ne_true] at p ⊢; exact ⟨μ1,ρ,S',sr1,re.up st1,p.shift st1⟩
 ·exact False.elim p
 ·exact False.elim p)
inductive tOfG (K:W.Frag) (g:G) (v:V) (σ:St) (H:Hp) (Q:St→Hp→Prop):Prop
 | mk (μ:List Addr) (ρ:Env1) (S:Store) (d:D) (ρ':Env1) (S':Store) (sr:SR K μ S H) (re:RE K H μ ρ σ) (rv:RV K H μ d v) (e:g d ρ S=.ok ρ' S') (y:∀ σ' H' μ',SR K μ' S' H'→Step K μ μ' H H'→RE K H' μ' ρ' σ'→Q σ' H')
theorem PG.weak {t t':TG} (h:PG X tg t) (w:∀ v σ H Q,t' v σ H Q→t v σ H Q):PG X tg t':=fun pins s σ H v u Q I r q=>h pins s σ H v u Q I r (w v σ H Q q)
noncomputable def gN (i:Nat):G:=fun d ρ S=>.ok (ρ.set i (some d)) S
theorem sg_name {i:Nat}{x:Str} (h:PG X (.Name x pos) (gName i)):PG X (.Name x pos) (tOfG X.K (gN i)):=h.weak (by
 rintro v σ H Q ⟨μ,ρ,S,d,ρ',S',sr,re,rv,e,y⟩
 unfold gN at e; cases e
 exact y _ H μ sr (Step.refl _ _ _) (re.set rv i))
noncomputable def gS (co ci:C):G:=fun d ρ=>bnd (co ρ) fun o=>bnd (ci ρ) fun i S=>match oSet o i d S with
 | some S'=>.ok ρ S'
 | none=>.bad
theorem sg_sub (hu:X.A.units+1<cLine) (ho:PE X a (tOf X.K ca)) (hi:PE X b (tOf X.K cb)) (ha:∀ v,assign (.Subscript a b pos) X.env v=(do
   let ov ← holding [v] (eval a X.env)
   let iv ← holding [v,ov] (eval b X.env)
   standAt pos
   holding [v,ov,iv] (setItem ov iv v)
   release [v,ov,iv] [])):PG X (.Subscript a b pos) (tOfG X.K (gS ca cb)):=(pg_sub ho hi setAny ha).weak (by
 rintro v σ H Q ⟨μ,ρ,S,d,ρ',S',sr,re,rv,e,y⟩
 obtain ⟨x,S1,e1,e⟩:=bnd_ok e
 obtain ⟨z,S2,e2,e⟩:=bnd_ok e
 split at e
 ·rename_i S3 e3
  cases e
  refine ⟨μ,ρ,S,x,S1,sr,re,e1,fun ov H1 μ1 sr1 st1 r1=>⟨μ1,ρ,S1,z,S2,sr1,re.up st1,e2,fun iv H2 μ2 sr2 st2 r2=>?_⟩⟩
  have st12:=st1.trans st2 sr2.nd
  refine ps_sets hu e3 sr2 (RV.up st2.tk st2.ext _ _ r1) r2 (RV.up st12.tk st12.ext _ _ rv) fun H3 sr3 st3=>?_
  exact y σ H3 μ2 sr3 (st12.trans st3 sr3.nd) (re.up (st12.trans st3 sr3.nd))
 ·cases e)
noncomputable def gTs:List G→List D→Env1→M Env1
 | [],[]=>fun ρ=>ret ρ
 | g::gs,d::ds=>fun ρ=>bnd (g d ρ) fun ρ1=>gTs gs ds ρ1
 | _,_=>fun _=>bad
noncomputable def gT (gs:List G):G:=fun d ρ=>match d with
 | .tup xs=>gTs gs xs ρ
 | _=>bad
inductive tOfGs (K:W.Frag) (gs:List G) (vs:List V) (σ:St) (H:Hp) (Q:St→Hp→Prop):Prop
 | mk (μ:List Addr) (ρ:Env1) (S:Store) (ds:List D) (ρ':Env1) (S':Store) (sr:SR K μ S H) (re:RE K H μ ρ σ) (rv:RVs K H μ ds vs) (e:gTs gs ds ρ S=.ok ρ' S') (y:∀ σ' H' μ',SR K μ' S' H'→Step K μ μ' H H'→RE K H' μ' ρ' σ'→Q σ' H')
theorem PGs.weak {es:List Expr}{t t':TGs} (h:PGs X es t) (w:∀ v σ H Q,t' v σ H Q→t v σ H Q):PGs X es t':=fun pins s σ H v u Q I r q=>h pins s σ H v u Q I r (w v σ H Q q)
theorem sgs_nil:PGs X [] (tOfGs X.K []):=pgs_nil.weak (by
 rintro v σ H Q ⟨μ,ρ,S,ds,ρ',S',sr,re,rv,e,y⟩
 cases ds with
 | nil =>
  obtain ⟨rfl,rfl⟩:=ret_ok e
  exact ⟨rv.nil_inv,y σ H μ sr (Step.refl _ _ _) re⟩
 | cons d ds=>cases e)
theorem sgs_cons {es:List Expr}{g:G}{gs:List G} (h1:PG X e (tOfG X.K g)) (h2:PGs X es (tOfGs X.K gs)) (hs:(assignEach (e::es) X.env).map (·.2)=assign e X.env::(assignEach es X.env).map (·.2)):PGs X (e::es) (tOfGs X.K (g::gs)):=(pgs_cons h1 h2 hs).weak (by
 rintro v σ H Q ⟨μ,ρ,S,ds,ρ',S',sr,re,rv,e,y⟩
 cases ds with
 | nil=>cases e
 | cons d ds =>
  obtain ⟨ρ1,S1,e1,e⟩:=bnd_ok e
  obtain ⟨u,us,rfl,r1,r2⟩:=rv.cons_inv
  refine ⟨u,us,rfl,μ,ρ,S,d,ρ1,S1,sr,re,r1,e1,fun σ1 H1 μ1 sr1 st1 re1=>?_⟩
  exact ⟨μ1,ρ1,S1,ds,ρ',S',sr1,re1,RVs.up st1.tk st1.ext _ _ r2,e,fun σ2 H2 μ2 sr2 st2 re2=>y σ2 H2 μ2 sr2 (st1.trans st2 sr2.nd) re2⟩)
theorem gTs_len {gs:List G}:∀ {ds:List D}{ρ ρ':Env1}{S S':Store},gTs gs ds ρ S=.ok ρ' S'→ds.length=gs.length:=by
 induction gs with
 | nil=>intro ds ρ ρ' S S' e; cases ds with | nil=>rfl | cons _ _=>cases e
 | cons g gs ih =>
  intro ds ρ ρ' S S' e
  cases ds with
  | nil=>cases e
  | cons d ds =>
   obtain ⟨ρ1,S1,e1,e⟩:=bnd_ok e
   rw [List.length_cons,List.length_cons,ih e]
theorem sg_tup {es:List Expr}{k:Nat}{gs:List G} (hc:X.calm=true) (h:PGs X es (tOfGs X.K gs)) (hn:(assignEach es X.env).length=gs.length) (hst:(assignEach es X.env).findIdx? (·.1)=none):PG X (.Tuple es k pos) (tOfG X.K (gT gs)) :=
 (pg_tup hc h hn hst).weak (by
 rintro v σ H Q ⟨μ,ρ,S,d,ρ',S',sr,re,rv,e,y⟩
 unfold gT at e
 split at e
 ·rename_i xs
  unfold RV at rv
  obtain ⟨p,vs,rfl,q,rr⟩:=rv
  exact ⟨p,vs,rfl,SqT.of q,by rw [← rr.len]; exact gTs_len e,μ,ρ,S,xs,ρ',S',sr,re,rr,e,y⟩
 ·cases e)
theorem ss_asg {g:G} (he:PE X e (tOf X.K ce)) (hg:PG X tg (tOfG X.K g)) (hs:swapsWithSole [tg] e pos.line X.env=pure false) (hw:swappedStores [tg] e X.env=pure none) (h1:(assignEach [tg] X.env).map (·.2)=[assign tg X.env]):PS X (.Assign [tg] e pos) (tOfS X (sAsg ce g)):=(ps_asg he hg hs hw h1).weak (by
 rintro E σ H ⟨μ,ρ,S,sr,re,p⟩
 unfold sAsg at p
 split at p
 ·rename_i d S' h
  split at p
  ·rename_i ρ' S2 h2
   refine ⟨μ,ρ,S,d,S',sr,re,h,fun v H1 μ1 sr1 st1 r1=>⟨μ1,ρ,S',d,ρ',S2,sr1,re.up st1,r1,h2,fun σ2 H2 μ2 sr2 st2 re2=>?_⟩⟩
   exact p σ2 H2 μ2 sr2 (st1.trans st2 sr2.nd) re2
  ·exact False.elim p
  ·exact False.elim p
 ·exact False.elim p
 ·exact False.elim p)
theorem ss_set {i:Nat}{x:Str}{pos':Pos} (h:PS X (.Assign [.Name x pos'] e pos) (tAsg (tOf X.K ce) (gName i))):PS X (.Assign [.Name x pos'] e pos) (tOfS X (sAsg ce (gN i))):=h.weak (by
 rintro E σ H ⟨μ,ρ,S,sr,re,p⟩
 unfold sAsg at p
 split at p
 ·rename_i d S' h
  have e2:gN i d ρ S'=.ok (ρ.set i (some d)) S':=rfl
  rw [e2] at p
  exact ⟨μ,ρ,S,d,S',sr,re,h,fun v H1 μ1 sr1 st1 r1=>p _ H1 μ1 sr1 st1 ((re.up st1).set r1 i)⟩
 ·exact False.elim p
 ·exact False.elim p)
noncomputable def whileS:Nat→CT→CS→CS
 | 0,_,_=>fun _ _=>.bad
 | k+1,t,b=>fun ρ S=>match t ρ S with
  | .ok true S1=>match b ρ S1 with
   | .nx ρ2 S2=>whileS k t b ρ2 S2
   | .ct ρ2 S2=>whileS k t b ρ2 S2
   | .bk ρ2 S2=>.nx ρ2 S2
   | r=>r
  | .ok false S1=>.nx ρ S1
  | .bad=>.bad
  | .er _ _=>.bad
theorem ss_while {t:Expr}{ct:CT}{body:List Stmt}{cb:CS} (k:Nat) (hp:PassesOwn (model X.prog X.w) X.A X.env X.xe) (ht:PT X t (tOfT X.K ct)) (hb:PSs X body (tOfS X cb)):PS X (.While t body [] pos) (tOfS X (whileS k ct cb)):=(ps_while hp ht hb).weak (by
 rintro E σ0 H0 ⟨μ0,ρ0,S0,sr0,re0,p0⟩
 refine ⟨fun m σ H=>∃ μ ρ S,SR X.K μ S H∧Step X.K μ0 μ H0 H∧RE X.K H μ ρ σ∧PostS X μ H E (whileS m ct cb ρ S),⟨k,μ0,ρ0,S0,sr0,Step.refl _ _ _,re0,p0⟩,?_⟩
 rintro m σ H ⟨μ,ρ,S,sr,st,re,p⟩
 cases m with
 | zero=>exact False.elim p
 | succ m =>
  unfold whileS at p
  split at p
  ·rename_i S1 h
   refine ⟨μ,ρ,S,true,S1,sr,re,h,fun H1 μ1 sr1 st1=>?_⟩
   dsimp only
   rw [if_pos rfl]
   refine ⟨fun σ' H'=>∃ μ ρ S,SR X.K μ S H'∧Step X.K μ0 μ H0 H'∧RE X.K H' μ ρ σ'∧PostS X μ H' E (whileS m ct cb ρ S),fun σ' H' h=>⟨m,Nat.lt_succ_self m,h⟩,μ1,ρ,S1,sr1,re.up st1,?_⟩
   have st01:=st.trans st1 sr1.nd
   revert p
   cases cb ρ S1 with
   | nx ρ2 S2=>exact fun p σ2 H2 μ2 sr2 st2 re2=>⟨μ2,ρ2,S2,sr2,st01.trans st2 sr2.nd,re2,p.shift (st1.trans st2 sr2.nd)⟩
   | ct ρ2 S2=>exact fun p σ2 H2 μ2 sr2 st2 re2=>⟨μ2,ρ2,S2,sr2,st01.trans st2 sr2.nd,re2,p.shift (st1.trans st2 sr2.nd)⟩
   | bk ρ2 S2=>exact fun p σ2 H2 μ2 sr2 st2 re2=>p σ2 H2 μ2 sr2 (st1.trans st2 sr2.nd) re2
   | rt d S2=>exact fun p=>Yld.shift p st1
   | bad=>exact fun p=>p
   | er _ _=>exact fun p=>p
  ·rename_i S1 h
   refine ⟨μ,ρ,S,false,S1,sr,re,h,fun H1 μ1 sr1 st1=>?_⟩
   dsimp only
   rw [if_neg Bool.false_ne_true]
   exact p σ H1 μ1 sr1 st1 (re.up st1)
  ·exact False.elim p
  ·exact False.elim p)
noncomputable abbrev Watch:=List (Nat × List D)
def okW (w:Watch) (S:Store):Prop:=∀ p∈w,lstAt S p.1=some p.2
noncomputable abbrev CI:=Env1→M (List D × Watch)
structure ItOk (K:W.Frag) (J:It) (items:List D) (w:Watch) (μ0:List Addr) (H0:Hp):Prop where
 go:∀ (i:Nat) H μ S,SR K μ S H→Step K μ0 μ H0 H→okW w S→i<items.length→J.go i H
 yld:∀ (i:Nat) H μ S x H',SR K μ S H→Step K μ0 μ H0 H→okW w S→i<items.length→J.yld i H x H'→∃ d,items[i]?=some d∧SR K μ S H'∧Step K μ μ H H'∧RV K H' μ d x
 stop:∀ H μ S,SR K μ S H→Step K μ0 μ H0 H→okW w S→J.stop items.length H
inductive tOfI (K:W.Frag) (it:CI) (σ:St) (H:Hp) (R:It→Hp→Prop):Prop
 | mk (μ:List Addr) (ρ:Env1) (S:Store) (items:List D) (w:Watch) (S':Store) (sr:SR K μ S H) (re:RE K H μ ρ σ) (e:it ρ S=.ok (items,w) S') (y:∀ J H' μ',SR K μ' S' H'→Step K μ μ' H H'→ItOk K J items w μ' H'→R J H')
theorem PI.weak {iter:Expr}{t t':TI} (h:PI X tg iter t) (w:∀ σ H R,t' σ H R→t σ H R):PI X tg iter t':=fun pins s σ H R I q=>h pins s σ H R I (w σ H R q)
theorem Step.at {K:W.Frag}{μ μ':List Addr}{H H':Hp} (st:Step K μ μ' H H') {n:Nat}{a:Addr} (h:μ[n]?=some a):μ'[n]?=some a:=by
 obtain ⟨ν,rfl⟩:=st.ext
 rw [List.getElem?_append_left (List.getElem?_eq_some_iff.mp h).1]; exact h
open Classical in
noncomputable def loopS (w:Watch) (g:G) (b:CS):List D→CS
 | []=>fun ρ S=>if okW w S then .nx ρ S else .bad
 | d::ds=>fun ρ S=>if okW w S then (match g d ρ S with
  | .ok ρ1 S1=>match b ρ1 S1 with
   | .nx ρ2 S2=>loopS w g b ds ρ2 S2
   | .ct ρ2 S2=>loopS w g b ds ρ2 S2
   | .bk ρ2 S2=>.nx ρ2 S2
   | r=>r
  | .bad=>.bad
  | .er _ _=>.bad) else .bad
noncomputable def sFor (it:CI) (g:G) (b:CS):CS:=fun ρ S=>match it ρ S with
 | .ok (items,w) S1=>loopS w g b items ρ S1
 | .bad=>.bad
 | .er _ _=>.bad
theorem ss_for {iter:Expr}{body:List Stmt}{it:CI}{g:G}{cb:CS} (hp:PassesOwn (model X.prog X.w) X.A X.env X.xe) (hc:X.calm=true) (hi:PI X tg iter (tOfI X.K it)) (hg:PG X tg (tOfG X.K g)) (hb:PSs X body (tOfS X cb))
  (hs:∀ x,foldedSetIterable iter X.env x=pure x):PS X (.For tg iter body [] pos) (tOfS X (sFor it g cb)):=(ps_for hp hc hi hg hb hs).weak (by
 rintro E σ H ⟨μ,ρ,S,sr,re,p⟩
 unfold sFor at p
 split at p
 ·rename_i items w S0 h0
  refine ⟨μ,ρ,S,items,w,S0,sr,re,h0,fun J H0 μ0 sr0 st0 io=>?_⟩
  refine ⟨fun i m σ H=>i+m=items.length∧∃ μ ρ S,SR X.K μ S H∧Step X.K μ0 μ H0 H∧RE X.K H μ ρ σ∧PostS X μ H E (loopS w g cb (items.drop i) ρ S),⟨items.length,by simp,μ0,ρ,S0,sr0,Step.refl _ _ _,re.up st0,by rw [List.drop_zero]; exact p.shift st0⟩,?_⟩
  rintro i m σ1 H1 ⟨him,μ1,ρ1,S1,sr1,st1,re1,p1⟩
  by_cases hi:i<items.length
  ·rw [List.drop_eq_getElem_cons hi] at p1
   unfold loopS at p1
   split at p1
   ·rename_i hw
    refine .inr ⟨io.go i H1 μ1 S1 sr1 st1 hw hi,fun σ' H'=>i+1+(m - 1)=items.length∧∃ μ ρ S,SR X.K μ S H'∧Step X.K μ0 μ H0 H'∧RE X.K H' μ ρ σ'∧PostS X μ H' E (loopS w g cb (items.drop (i+1)) ρ S),fun σ' H' z=>⟨m - 1,by omega,z⟩,fun x H2 hy=>?_⟩
    obtain ⟨d,hd,sr2,st2,rv⟩:=io.yld i H1 μ1 S1 x H2 sr1 st1 hw hi hy
    have ed:items[i]=d:=by rw [List.getElem?_eq_getElem hi] at hd; exact Option.some.inj hd
    rw [ed] at p1
    split at p1
    ·rename_i ρ3 S3 h3
     refine ⟨μ1,ρ1,S1,d,ρ3,S3,sr2,re1.up st2,rv,h3,fun σ3 H3 μ3 sr3 st3 re3=>⟨μ3,ρ3,S3,sr3,re3,?_⟩⟩
     have st23:=st2.trans st3 sr3.nd
     have st03:=st1.trans st23 sr3.nd
     revert p1
     cases cb ρ3 S3 with
     | nx ρ4 S4=>exact fun p σ4 H4 μ4 sr4 st4 re4=>⟨by omega,μ4,ρ4,S4,sr4,st03.trans st4 sr4.nd,re4,p.shift (st23.trans st4 sr4.nd)⟩
     | ct ρ4 S4=>exact fun p σ4 H4 μ4 sr4 st4 re4=>⟨by omega,μ4,ρ4,S4,sr4,st03.trans st4 sr4.nd,re4,p.shift (st23.trans st4 sr4.nd)⟩
     | bk ρ4 S4=>exact fun p σ4 H4 μ4 sr4 st4 re4=>p σ4 H4 μ4 sr4 (st23.trans st4 sr4.nd) re4
     | rt d S4=>exact fun p=>Yld.shift p st23
     | bad=>exact fun p=>p
     | er _ _=>exact fun p=>p
    ·exact False.elim p1
    ·exact False.elim p1
   ·exact False.elim p1
  ·have e:i=items.length:=by omega
   subst e
   rw [List.drop_length] at p1
   unfold loopS at p1
   split at p1
   ·rename_i hw
    exact .inl ⟨io.stop H1 μ1 S1 sr1 st1 hw,p1 σ1 H1 μ1 sr1 (Step.refl _ _ _) re1⟩
   ·exact False.elim p1
 ·exact False.elim p
 ·exact False.elim p)
end
open PySem PySem.Spec PyProof.Rows
section
variable {X:Cx}{tg e:Expr}{ce:C}{pos:Pos}
noncomputable def iSeq (c:C):CI:=fun ρ=>bnd (c ρ) fun x S=>match x with
 | .tup xs=>.ok (xs,[]) S
 | .lst n=>match lstAt S n with
  | some xs=>.ok (xs,[(n,xs)]) S
  | none=>.bad
 | _=>.bad
theorem it_tup {K:W.Frag}{H0:Hp}{μ0:List Addr}{a:Addr}{xs:List D}{vs:List V} (q:SqT K H0 a vs) (r:RVs K H0 μ0 xs vs):ItOk K (Itt K a) xs [] μ0 H0 where
 go:=fun i H μ S sr st _ hi=>by
  obtain ⟨v,e,_⟩:=r.get (List.getElem?_eq_getElem hi)
  exact ⟨vs,v,st.tk.t _ _ q,e⟩
 yld:=fun i H μ S x H' sr st _ hi y=>by
  obtain ⟨rfl,y⟩:=y
  obtain ⟨v,e,rv⟩:=r.get (List.getElem?_eq_getElem hi)
  have:=y vs (st.tk.t _ _ q)
  rw [e] at this; cases this
  exact ⟨xs[i],List.getElem?_eq_getElem hi,sr,Step.refl _ _ _,RV.up st.tk st.ext _ _ rv⟩
 stop:=fun H μ S sr st _=>⟨vs,st.tk.t _ _ q,by rw [r.len]; exact Nat.le_refl _⟩
theorem it_lst {K:W.Frag}{H0:Hp}{μ0:List Addr}{a:Addr}{n:Nat}{xs:List D} (hm:μ0[n]?=some a):ItOk K (Itl K a) xs [(n,xs)] μ0 H0 where
 go:=fun i H μ S sr st w hi=>by
  obtain ⟨vs,q,r⟩:=sr.sq (st.at hm) (w (n,xs) (by simp))
  obtain ⟨v,e,_⟩:=r.get (List.getElem?_eq_getElem hi)
  exact ⟨vs,v,q,e⟩
 yld:=fun i H μ S x H' sr st w hi y=>by
  obtain ⟨rfl,y⟩:=y
  obtain ⟨vs,q,r⟩:=sr.sq (st.at hm) (w (n,xs) (by simp))
  obtain ⟨v,e,rv⟩:=r.get (List.getElem?_eq_getElem hi)
  have:=y vs q
  rw [e] at this; cases this
  exact ⟨xs[i],List.getElem?_eq_getElem hi,sr,Step.refl _ _ _,rv⟩
 stop:=fun H μ S sr st w=>by
  obtain ⟨vs,q,r⟩:=sr.sq (st.at hm) (w (n,xs) (by simp))
  exact ⟨vs,q,by rw [r.len]; exact Nat.le_refl _⟩
theorem pi_seq {tl:TE} (hl:PE X e tl):PI X tg e (fun σ H R=>tl σ H fun x H1=>∃ a,x=.ref a∧((∃ xs,SqL X.K H1 a xs)∧R (Itl X.K a) H1∨(∃ xs,SqT X.K H1 a xs)∧R (Itt X.K a) H1
  )):=by
 intro pins s σ H R I h
 refine thn (hl pins s σ H _ I h) fun v s1 ⟨x,H1,I1,r1,q1⟩=>?_
 obtain ⟨a,e,q⟩:=q1
 subst e
 cases r1
 rcases q with ⟨⟨xs,hq⟩,q⟩ | ⟨⟨xs,hq⟩,q⟩
 ·obtain ⟨its,rv,p,hz⟩:=I1.list hq
  refine wpAny_pyIter_list p.isList ?_
  refine ⟨s1.heap.objs.size,[s1.heap.objs.size],_,_,H1,rfl,I1.kept (t':=s1.toks) fun b o e=>Heap.get?_push_of_some _ e,turn_list a _,⟨_,Heap.get?_push_size _ rfl,rfl,rfl⟩,fun b hb=>?_,q⟩
  have e:b=s1.heap.objs.size:=by simpa using hb
  subst e
  exact I1.fpOk (Nat.le_refl _) (I1.hok.fresh (Nat.le_refl _))
 ·obtain ⟨its,rv,p,hz⟩:=I1.tuple hq
  refine wpAny_pyIter_tuple (show s1.heap.IsTuple a its.toArray from p) ?_
  refine ⟨s1.heap.objs.size,[s1.heap.objs.size],_,_,H1,rfl,I1.kept (t':=s1.toks) fun b o e=>Heap.get?_push_of_some _ e,turn_tuple a _,⟨_,Heap.get?_push_size _ rfl,rfl,rfl⟩,fun b hb=>?_,q⟩
  have e:b=s1.heap.objs.size:=by simpa using hb
  subst e
  exact I1.fpOk (Nat.le_refl _) (I1.hok.fresh (Nat.le_refl _))
theorem si_seq (he:PE X e (tOf X.K ce)):PI X tg e (tOfI X.K (iSeq ce)):=(pi_seq he).weak (by
 rintro σ H R ⟨μ,ρ,S,items,w,S',sr,re,e,y⟩
 obtain ⟨x,S1,e1,e⟩:=bnd_ok e
 refine ⟨μ,ρ,S,x,S1,sr,re,e1,fun v H1 μ1 sr1 st1 r1=>?_⟩
 try dsimp only at e
 split at e
 ·rename_i xs
  cases e
  have r1':=r1
  unfold RV at r1'; obtain ⟨a,vs,rfl,q,rr⟩:=r1'
  exact ⟨a,rfl,.inr ⟨⟨vs,SqT.of q⟩,y _ H1 μ1 sr1 st1 (it_tup (SqT.of q) rr)⟩⟩
 ·rename_i n
  split at e
  ·rename_i xs hx
   cases e
   unfold RV at r1; obtain ⟨a,rfl,hm⟩:=r1
   obtain ⟨vs,q,rr⟩:=sr1.sq hm hx
   exact ⟨a,rfl,.inl ⟨⟨vs,q⟩,y _ H1 μ1 sr1 st1 (it_lst hm)⟩⟩
  ·cases e
 ·cases e)
noncomputable def upD (lo:Int) (n:Nat):List D:=(List.range n).map fun k=>D.int (lo+(k:Nat))
theorem it_rng {K:W.Frag}{H0:Hp}{μ0:List Addr}{lo:Int}{n:Nat}:ItOk K (Itr lo n) (upD lo n) [] μ0 H0 where
 go:=fun i H μ S sr st _ hi=>by
  unfold upD at hi; simp at hi; exact hi
 yld:=fun i H μ S x H' sr st _ hi y=>by
  obtain ⟨rfl,rfl⟩:=y
  have hi':i<n:=by unfold upD at hi; simp at hi; exact hi
  exact ⟨.int (lo+i),by unfold upD; rw [List.getElem?_map,List.getElem?_range hi']; rfl,sr,Step.refl _ _ _,rv_int⟩
 stop:=fun H μ S sr st _=>by
  show n≤(upD lo n).length
  unfold upD; simp
noncomputable def iRange1 (a:CA):CI:=fun ρ=>bnd (a ρ) fun xs S=>match xs with
 | [.int j]=>if -4611686018427387904≤j∧j<4611686018427387904 then .ok (upD 0 j.toNat,[]) S else .bad
 | _=>.bad
noncomputable def iRange2 (a:CA):CI:=fun ρ=>bnd (a ρ) fun xs S=>match xs with
 | [.int i,.int j]=>if -4611686018427387904≤i∧i<4611686018427387904∧-4611686018427387904≤j∧j<4611686018427387904 then .ok (upD i (j - i).toNat,[]) S else .bad
 | _=>.bad
variable {a b:Expr}{ca:CA}
theorem si_range1 {p:Pos} (h:PI X tg (.Call (.Name "range" p) [a] [] pos) (iRng1 (tOfA X.K ca))):PI X tg (.Call (.Name "range" p) [a] [] pos) (tOfI X.K (iRange1 ca)):=h.weak (by
 rintro σ H R ⟨μ,ρ,S,items,w,S',sr,re,e,y⟩
 obtain ⟨xs,S1,e1,e⟩:=bnd_ok e
 refine ⟨μ,ρ,S,xs,S1,sr,re,e1,fun vs H1 μ1 sr1 st1 r1=>?_⟩
 try dsimp only at e
 split at e
 ·rename_i j
  split at e
  ·rename_i hl
   cases e
   obtain ⟨v,rfl,r2⟩:=r1.one
   unfold RV at r2; subst r2
   exact ⟨j,rfl,hl.1,hl.2,y _ H1 μ1 sr1 st1 it_rng⟩
  ·cases e
 ·cases e)
theorem si_range2 {p:Pos} (h:PI X tg (.Call (.Name "range" p) [a,b] [] pos) (iRng2 (tOfA X.K ca))):PI X tg (.Call (.Name "range" p) [a,b] [] pos) (tOfI X.K (iRange2 ca)):=h.weak (by
 rintro σ H R ⟨μ,ρ,S,items,w,S',sr,re,e,y⟩
 obtain ⟨xs,S1,e1,e⟩:=bnd_ok e
 refine ⟨μ,ρ,S,xs,S1,sr,re,e1,fun vs H1 μ1 sr1 st1 r1=>?_⟩
 try dsimp only at e
 split at e
 ·rename_i i j
  split at e
  ·rename_i hl
   cases e
   obtain ⟨v,u,rfl,r2,r3⟩:=r1.two
   unfold RV at r2 r3; subst r2 r3
   exact ⟨i,j,rfl,hl,y _ H1 μ1 sr1 st1 it_rng⟩
  ·cases e
 ·cases e)
theorem zip_get {α β:Type}{xs:List α}{ys:List β}{i:Nat} (h:i<(xs.zip ys).length):∃ x y,xs[i]?=some x∧ys[i]?=some y∧(xs.zip ys)[i]?=some (x,y):=by
 rw [List.length_zip] at h
 have h1:i<xs.length:=by omega
 have h2:i<ys.length:=by omega
 exact ⟨xs[i],ys[i],List.getElem?_eq_getElem h1,List.getElem?_eq_getElem h2,by rw [List.getElem?_zip_eq_some]; exact ⟨List.getElem?_eq_getElem h1,List.getElem?_eq_getElem h2⟩⟩
noncomputable def zipD (xs ys:List D):List D:=(xs.zip ys).map fun p=>.tup [p.1,p.2]
noncomputable def zsAt (S:Store):D→Option (List D)
 | .tup xs=>some xs
 | .lst n=>lstAt S n
 | _=>none
noncomputable def watchOf (x:D) (xs:List D):Watch:=match x with
 | .lst n=>[(n,xs)]
 | _=>[]
theorem sqX_of {K:W.Frag}{μ:List Addr}{S:Store}{H:Hp}{x:D}{v:V}{xs:List D} (sr:SR K μ S H) (r:RV K H μ x v) (ho:zsAt S x=some xs):∃ a b,v=.ref a∧(∃ vs,SqX b K H a vs) ∧
  ∀ H1 μ1 S1,SR K μ1 S1 H1→Step K μ μ1 H H1→okW (watchOf x xs) S1→∃ vs,SqX b K H1 a vs∧RVs K H1 μ1 xs vs:=by
 unfold zsAt at ho
 split at ho
 ·rename_i ys
  cases ho
  unfold RV at r; obtain ⟨a,vs,rfl,q,rr⟩:=r
  exact ⟨a,true,rfl,⟨vs,SqT.of q⟩,fun H1 μ1 S1 sr1 st1 _=>⟨vs,st1.tk.t _ _ (SqT.of q),RVs.up st1.tk st1.ext _ _ rr⟩⟩
 ·rename_i n
  unfold RV at r; obtain ⟨a,rfl,hm⟩:=r
  obtain ⟨vs,q,rr⟩:=sr.sq hm ho
  exact ⟨a,false,rfl,⟨vs,q⟩,fun H1 μ1 S1 sr1 st1 w=>sr1.sq (st1.at hm) (w (n,xs) (by simp [watchOf]))⟩
 ·cases ho
theorem okW_app {w1 w2:Watch}{S:Store}:okW (w1++w2) S↔okW w1 S∧okW w2 S:=by
 unfold okW
 simp only [List.mem_append]
 exact ⟨fun h=>⟨fun p hp=>h p (.inl hp),fun p hp=>h p (.inr hp)⟩,fun h p hp=>hp.elim (h.1 p) (h.2 p)⟩
theorem it_zipX {K:W.Frag}{H0:Hp}{μ0:List Addr}{a b:Addr}{b1 b2:Bool}{w1 w2:Watch}{xs ys:List D}
  (g1:∀ H1 μ1 S1,SR K μ1 S1 H1→Step K μ0 μ1 H0 H1→okW w1 S1→∃ vs,SqX b1 K H1 a vs∧RVs K H1 μ1 xs vs) (g2:∀ H1 μ1 S1,SR K μ1 S1 H1→Step K μ0 μ1 H0 H1→okW w2 S1→∃ vs,SqX b2 K H1 b vs∧RVs K H1 μ1 ys vs) :
  ItOk K (ItzX b1 b2 K a b) (zipD xs ys) (w1++w2) μ0 H0 where
 go:=fun i H μ S sr st w hi=>by
  obtain ⟨vs,q,r⟩:=g1 H μ S sr st (okW_app.mp w).1
  obtain ⟨us,q2,r2⟩:=g2 H μ S sr st (okW_app.mp w).2
  obtain ⟨x,y,e1,e2,_⟩:=zip_get (xs:=xs) (ys:=ys) (i:=i) (by unfold zipD at hi; simpa using hi)
  obtain ⟨v,g1,_⟩:=r.get e1
  obtain ⟨u,g2,_⟩:=r2.get e2
  exact ⟨vs,us,v,u,q,q2,g1,g2⟩
 yld:=fun i H μ S x H' sr st w hi y=>by
  obtain ⟨T,hT,rfl,y⟩:=y
  obtain ⟨vs,q,r⟩:=g1 H μ S sr st (okW_app.mp w).1
  obtain ⟨us,q2,r2⟩:=g2 H μ S sr st (okW_app.mp w).2
  obtain ⟨x,y',e1,e2,e3⟩:=zip_get (xs:=xs) (ys:=ys) (i:=i) (by unfold zipD at hi; simpa using hi)
  obtain ⟨v,g1,rv⟩:=r.get e1
  obtain ⟨u,g2,ru⟩:=r2.get e2
  have:=y vs us v u q q2 g1 g2
  subst this
  obtain ⟨s1,s2,s3⟩:=new_tup (p:=T) sr hT (.cons rv (.cons ru .nil))
  exact ⟨.tup [x,y'],by unfold zipD; rw [List.getElem?_map,e3]; rfl,s1,s2,s3⟩
 stop:=fun H μ S sr st w=>by
  obtain ⟨vs,q,r⟩:=g1 H μ S sr st (okW_app.mp w).1
  obtain ⟨us,q2,r2⟩:=g2 H μ S sr st (okW_app.mp w).2
  exact ⟨vs,us,q,q2,by unfold zipD; rw [List.length_map,List.length_zip,r.len,r2.len]⟩
noncomputable def iZipL (a:CA):CI:=fun ρ=>bnd (a ρ) fun xs S=>match xs with
 | [x,y]=>match zsAt S x,zsAt S y with
  | some ys,some zs=>.ok (zipD ys zs,watchOf x ys++watchOf y zs) S
  | _,_=>.bad
 | _=>.bad
theorem si_zip {elts:List Expr}{k:Nat}{tpos p:Pos} (h:PI X (.Tuple elts k tpos) (.Call (.Name "zip" p) [a,b] [] pos) (iZipX X.K (tOfA X.K ca))):PI X (.Tuple elts k tpos) (.Call (.Name "zip" p) [a,b] [] pos) (tOfI X.K (iZipL ca)):=h.weak (by
 rintro σ H R ⟨μ,ρ,S,items,w,S',sr,re,e,y⟩
 obtain ⟨xs,S1,e1,e⟩:=bnd_ok e
 refine ⟨μ,ρ,S,xs,S1,sr,re,e1,fun vs H1 μ1 sr1 st1 r1=>?_⟩
 try dsimp only at e
 split at e
 ·rename_i x1 x2
  split at e
  ·rename_i ys zs h1 h2
   cases e
   obtain ⟨v,u,rfl,r2,r3⟩:=r1.two
   obtain ⟨a,b1,rfl,q1,g1⟩:=sqX_of sr1 r2 h1
   obtain ⟨b,b2,rfl,q2,g2⟩:=sqX_of sr1 r3 h2
   exact ⟨a,b,b1,b2,rfl,q1,q2,y _ H1 μ1 sr1 st1 (it_zipX g1 g2)⟩
  ·cases e
 ·cases e)
noncomputable def zipD3 (xs ys us:List D):List D:=(xs.zip (ys.zip us)).map fun p=>.tup [p.1,p.2.1,p.2.2]
noncomputable def iZip3L (a:CA):CI:=fun ρ=>bnd (a ρ) fun xs S=>match xs with
 | [.lst n,.tup ys,.tup us]=>match lstAt S n with
  | some xs=>.ok (zipD3 xs ys us,[(n,xs)]) S
  | none=>.bad
 | _=>.bad
noncomputable def enumD (xs:List D):List D:=((List.range xs.length).zip xs).map fun p=>.tup [.int (p.1:Nat),p.2]
theorem enum_get {xs:List D}{i:Nat} (h:i<xs.length):(enumD xs)[i]?=some (.tup [.int (i:Nat),xs[i]]):=by
 unfold enumD
 rw [List.getElem?_map]
 have:((List.range xs.length).zip xs)[i]?=some (i,xs[i]):=by
  rw [List.getElem?_zip_eq_some]
  exact ⟨List.getElem?_range h,List.getElem?_eq_getElem h⟩
 rw [this]; rfl
theorem enum_len (xs:List D):(enumD xs).length=xs.length:=by unfold enumD; simp
theorem it_enumT {K:W.Frag}{H0:Hp}{μ0:List Addr}{a:Addr}{xs:List D}{vs:List V} (q:SqT K H0 a vs) (r:RVs K H0 μ0 xs vs):ItOk K (IteX true K a) (enumD xs) [] μ0 H0 where
 go:=fun i H μ S sr st _ hi=>by
  rw [enum_len] at hi
  obtain ⟨v,e,_⟩:=r.get (List.getElem?_eq_getElem hi)
  exact ⟨vs,v,st.tk.t _ _ q,e⟩
 yld:=fun i H μ S x H' sr st _ hi y=>by
  rw [enum_len] at hi
  obtain ⟨T,hT,rfl,y⟩:=y
  obtain ⟨v,e,rv⟩:=r.get (List.getElem?_eq_getElem hi)
  have:=y vs v (st.tk.t _ _ q) e
  subst this
  obtain ⟨s1,s2,s3⟩:=new_tup (p:=T) sr hT (.cons rv_int (.cons (RV.up st.tk st.ext _ _ rv) .nil))
  exact ⟨_,enum_get hi,s1,s2,s3⟩
 stop:=fun H μ S sr st _=>⟨vs,st.tk.t _ _ q,by rw [enum_len,r.len]⟩
theorem it_enumL {K:W.Frag}{H0:Hp}{μ0:List Addr}{a:Addr}{n:Nat}{xs:List D} (hm:μ0[n]?=some a):ItOk K (IteX false K a) (enumD xs) [(n,xs)] μ0 H0 where
 go:=fun i H μ S sr st w hi=>by
  rw [enum_len] at hi
  obtain ⟨vs,q,r⟩:=sr.sq (st.at hm) (w (n,xs) (by simp))
  obtain ⟨v,e,_⟩:=r.get (List.getElem?_eq_getElem hi)
  exact ⟨vs,v,q,e⟩
 yld:=fun i H μ S x H' sr st w hi y=>by
  rw [enum_len] at hi
  obtain ⟨T,hT,rfl,y⟩:=y
  obtain ⟨vs,q,r⟩:=sr.sq (st.at hm) (w (n,xs) (by simp))
  obtain ⟨v,e,rv⟩:=r.get (List.getElem?_eq_getElem hi)
  have:=y vs v q e
  subst this
  obtain ⟨s1,s2,s3⟩:=new_tup (p:=T) sr hT (.cons rv_int (.cons rv .nil))
  exact ⟨_,enum_get hi,s1,s2,s3⟩
 stop:=fun H μ S sr st w=>by
  obtain ⟨vs,q,r⟩:=sr.sq (st.at hm) (w (n,xs) (by simp))
  exact ⟨vs,q,by rw [enum_len,r.len]⟩
noncomputable def iEnumT (a:CA):CI:=fun ρ=>bnd (a ρ) fun xs S=>match xs with
 | [.tup ys]=>.ok (enumD ys,[]) S
 | [.lst n]=>match lstAt S n with
  | some ys=>.ok (enumD ys,[(n,ys)]) S
  | none=>.bad
 | _=>.bad
theorem si_enum {elts:List Expr}{k:Nat}{tpos p:Pos} (h:PI X (.Tuple elts k tpos) (.Call (.Name "enumerate" p) [a] [] pos) (iEnumL X.K (tOfA X.K ca))):PI X (.Tuple elts k tpos) (.Call (.Name "enumerate" p) [a] [] pos) (tOfI X.K (iEnumT ca)):=h.weak (by
 rintro σ H R ⟨μ,ρ,S,items,w,S',sr,re,e,y⟩
 obtain ⟨xs,S1,e1,e⟩:=bnd_ok e
 refine ⟨μ,ρ,S,xs,S1,sr,re,e1,fun vs H1 μ1 sr1 st1 r1=>?_⟩
 try dsimp only at e
 split at e
 ·rename_i ys
  cases e
  obtain ⟨v,rfl,r2⟩:=r1.one
  unfold RV at r2
  obtain ⟨a,vs,rfl,q,rr⟩:=r2
  exact ⟨a,rfl,.inl ⟨⟨vs,SqT.of q⟩,y _ H1 μ1 sr1 st1 (it_enumT (SqT.of q) rr)⟩⟩
 ·rename_i n
  split at e
  ·rename_i ys ho
   cases e
   obtain ⟨v,rfl,r2⟩:=r1.one
   unfold RV at r2
   obtain ⟨a,rfl,hm⟩:=r2
   obtain ⟨vs,q,_⟩:=sr1.sq hm ho
   exact ⟨a,rfl,.inr ⟨⟨vs,q⟩,y _ H1 μ1 sr1 st1 (it_enumL hm)⟩⟩
  ·cases e
 ·cases e)
noncomputable def stE (k:Nat) (js:List Nat) (ρ:Env1):Env1:=List.replicate k none++js.map fun j=>(ρ[j]?).getD none
theorem RE.comp {K:W.Frag}{H:Hp}{μ:List Addr}{ρ:Env1}{σ:St} (re:RE K H μ ρ σ) (k:Nat) (js:List Nat):RE K H μ (stE k js ρ) (stC k js σ):=by
 refine ⟨by unfold stE stC; simp,fun i d e=>?_⟩
 unfold stE at e
 unfold stC
 by_cases hi:i<k
 ·rw [List.getElem?_append_left (by simpa using hi),List.getElem?_replicate] at e
  simp [hi] at e
 ·rw [List.getElem?_append_right (by simpa using hi),List.length_replicate,List.getElem?_map] at e
  rw [List.getElem?_append_right (by simpa using hi),List.length_replicate,List.getElem?_map]
  cases q:js[i - k]? with
  | none=>rw [q] at e; simp at e
  | some j =>
   rw [q] at e
   simp only [Option.map_some,Option.some.injEq] at e
   cases q2:ρ[j]? with
   | none=>rw [q2] at e; simp at e
   | some z =>
    rw [q2] at e
    simp at e
    subst e
    obtain ⟨v,e1,r1⟩:=re.2 j d q2
    exact ⟨v,by simp [e1],r1⟩
inductive Tgt where
 | one | many (k:Nat)
noncomputable def setAll:Env1→Nat→List D→Env1
 | ρ,_,[]=>ρ
 | ρ,s,x::xs=>setAll (ρ.set s (some x)) (s+1) xs
noncomputable def bindT (t:Tgt) (d:D) (ρ:Env1):Option Env1:=match t with
 | .one=>some (ρ.set 0 (some d))
 | .many k=>match d with
  | .tup xs=>if xs.length=k then some (setAll ρ 0 xs) else none
  | _=>none
noncomputable def gNames:Nat→Nat→TGs
 | _,0=>gNil
 | s,n+1=>gCons (gName s) (gNames (s+1) n)
noncomputable def tgtK:Tgt→Nat
 | .one=>1
 | .many k=>k
noncomputable def tOfT' (K:W.Frag):Tgt→TG
 | .one=>gName 0
 | .many k=>gTup K k (gNames 0 k)
theorem weak_set {k:Nat}{js:List Nat}{σ σ1:St} (h:WeakS (stC k js σ) σ1) {i:Nat} (hi:i<k) (v:V):WeakS (stC k js σ) (σ1.set i (some v)):=by
 refine ⟨by rw [List.length_set]; exact h.1,fun j u e=>?_⟩
 by_cases hj:i=j
 ·subst hj
  obtain ⟨_,h1,_⟩:=stC_get e
  omega
 ·rw [List.getElem?_set_ne hj]
  exact h.2 j u e
theorem weak_refl (σ:St):WeakS σ σ:=⟨rfl,fun _ _ h=>h⟩
theorem names_ok {K:W.Frag}{H:Hp}{μ:List Addr}{k:Nat}{js:List Nat}{σ:St}{Q:St→Hp→Prop}:∀ {n s:Nat}{xs:List D}{vs:List V}{ρ1:Env1}{σ1:St},RVs K H μ xs vs→xs.length=n→s+n≤k→RE K H μ ρ1 σ1→WeakS (stC k js σ) σ1→(∀ σ4,RE K H μ (setAll ρ1 s xs) σ4→WeakS (stC k js σ) σ4→Q σ4 H)→gNames s n vs σ1 H Q
 | 0,s,xs,vs,ρ1,σ1,r,hl,hk,re,w,h=>by
  have:xs=[]:=List.length_eq_zero_iff.mp hl
  subst this
  exact ⟨r.nil_inv,h σ1 re w⟩
 | n+1,s,[],vs,ρ1,σ1,r,hl,hk,re,w,h=>by simp at hl
 | n+1,s,x::xs,vs,ρ1,σ1,r,hl,hk,re,w,h=>by
  obtain ⟨v,us,rfl,r1,r2⟩:=r.cons_inv
  exact ⟨v,us,rfl,names_ok r2 (by simpa using hl) (by omega) (re.set r1 s) (weak_set w (by omega) v) h⟩
theorem bind_ok {K:W.Frag}{H:Hp}{μ:List Addr}{k:Nat}{js:List Nat}{σ:St}{ρ ρ4:Env1}{t:Tgt}{d:D}{x:V}{Q:St→Hp→Prop} (ht:tgtK t≤k) (re:RE K H μ (stE k js ρ) (stC k js σ)) (rv:RV K H μ d x) (e:bindT t d (stE k js ρ)=some ρ4) (h:∀ σ4,RE K H μ ρ4 σ4→WeakS (stC k js σ) σ4→Q σ4 H) (h1:1≤k):tOfT' K t x (stC k js σ) H Q:=by
 cases t with
 | one =>
  cases e
  exact h _ (re.set rv 0) (weak_set (weak_refl _) h1 x)
 | many n =>
  unfold bindT at e
  dsimp only at e
  split at e
  ·rename_i xs
   split at e
   ·rename_i hl
    cases e
    unfold RV at rv
    obtain ⟨p,vs,rfl,q,rr⟩:=rv
    exact ⟨p,vs,rfl,SqT.of q,by rw [← rr.len]; exact hl,names_ok rr hl (by have:n≤k:=ht; omega) re (weak_refl _) h⟩
   ·cases e
  ·cases e
open Classical in
noncomputable def loopC (w:Watch) (t:Tgt) (tc:CT) (c:C) (ρ0:Env1):List D→M (List D)
 | []=>fun S=>if okW w S then .ok [] S else .bad
 | d::ds=>fun S=>if okW w S then (match bindT t d ρ0 with
  | some ρ1=>bnd (tc ρ1) (fun k=>if k then bnd (c ρ1) fun y=>bnd (loopC w t tc c ρ0 ds) fun ys=>ret (y::ys) else loopC w t tc c ρ0 ds) S
  | none=>.bad) else .bad
noncomputable def cComp (it:CI) (k:Nat) (js:List Nat) (t:Tgt) (tc:CT) (c:C):C:=fun ρ=>bnd (it ρ) fun p S=>if p.1.length<lim then
  bnd (loopC p.2 t tc c (stE k js ρ) p.1) (fun ys S'=>.ok (.lst S'.length) (S'++[.lst ys])) S
 else .bad
theorem SR.acc {K:W.Frag}{H:Hp}{μ:List Addr}{S:Store}{A:Addr}{us ws:List V} (sr:SR K μ S H) (hA:A∉μ) (h:H A=some (.lst us)):SR K μ S (upd H A (.lst ws)) :=
 ⟨sr.len,sr.nd,fun n a o e1 e2=>(sr.obj n a o e1 e2).up (tf_lst h) ⟨[],by simp⟩ (upd_ne fun z=>hA (z▸List.mem_of_getElem? e1))⟩
theorem Step.acc {K:W.Frag}{H0 H:Hp}{μ0 μ:List Addr}{A:Addr}{us ws:List V} (st:Step K μ0 μ H0 H) (h0:H0 A=none) (h:H A=some (.lst us)):Step K μ0 μ H0 (upd H A (.lst ws)) :=
 ⟨st.pre,fun b o hb e=>by rw [upd_ne (ne_of_none e h0)]; exact st.fr b o hb e,st.tk.trans (tf_lst h)⟩
theorem SR.adopt {K:W.Frag}{H:Hp}{μ:List Addr}{S:Store}{A:Addr}{us:List V}{acc:List D} (sr:SR K μ S H) (hA:A∉μ) (h:H A=some (.lst us)) (r:RVs K H μ acc us):SR K (μ++[A]) (S++[.lst acc]) H:=by
 refine ⟨by simp [sr.len],?_,fun n a u e1 e2=>?_⟩
 ·rw [List.nodup_append]
  refine ⟨sr.nd,by simp,fun a ha b hb=>?_⟩
  simp at hb; subst hb
  exact fun z=>hA (z▸ha)
 ·by_cases hn:n<μ.length
  ·rw [List.getElem?_append_left hn] at e1
   rw [List.getElem?_append_left (by rw [← sr.len]; exact hn)] at e2
   exact (sr.obj n a u e1 e2).up (TF.refl _ _) ⟨[A],rfl⟩ rfl
  ·rw [List.getElem?_append_right (by omega)] at e1
   rw [List.getElem?_append_right (by rw [← sr.len]; omega)] at e2
   have h1:n - μ.length=0:=by
    have:=(List.getElem?_eq_some_iff.mp e1).1
    simp at this; omega
   rw [h1] at e1
   rw [← sr.len,h1] at e2
   simp at e1 e2
   subst e1 e2
   exact ⟨us,h,RVs.up (TF.refl _ _) ⟨[A],rfl⟩ _ _ r⟩
theorem Step.adopt {K:W.Frag}{H0 H:Hp}{μ0 μ:List Addr}{A:Addr} (st:Step K μ0 μ H0 H) (h0:H0 A=none):Step K μ0 (μ++[A]) H0 H:=by
 obtain ⟨ν,e,n⟩:=st.pre
 refine ⟨⟨ν++[A],by rw [e,List.append_assoc],fun b hb=>?_⟩,st.fr,st.tk⟩
 rcases List.mem_append.mp hb with h | h
 ·exact n b h
 ·simp at h; subst h; exact h0
theorem Step.notIn {K:W.Frag}{H H':Hp}{μ μ':List Addr}{A:Addr}{o:HO} (st:Step K μ μ' H H') (hA:A∉μ) (h:H A=some o):A∉μ':=fun z=>by
 obtain ⟨ν,rfl,n⟩:=st.pre
 rcases List.mem_append.mp z with q | q
 ·exact hA q
 ·rw [n A q] at h; cases h
inductive CompW (K:W.Frag) (items:List D) (w:Watch) (t:Tgt) (tc:CT) (c:C) (ρ0:Env1) (μ0:List Addr) (H0:Hp) (A:Addr) (S1:Store) (ys:List D) (i m:Nat) (us:List V) (H2:Hp):Prop
 | mk (him:i+m=items.length) (hus:us.length≤i) (μ2:List Addr) (S2:Store) (acc rest:List D) (sr:SR K μ2 S2 H2) (st:Step K μ0 μ2 H0 H2) (nA:A∉μ2) (hA:H2 A=some (.lst us)) (ra:RVs K H2 μ2 acc us) (el:loopC w t tc c ρ0 (items.drop i) S2=.ok rest S1) (eys:acc++rest=ys)
theorem of_comp {σ:St}{H:Hp}{Q:VK}{it:CI}{k:Nat}{js:List Nat}{t:Tgt}{tc:CT}{c:C} (ht:tgtK t≤k) (h1:1≤k) (h:tOf X.K (cComp it k js t tc c) σ H Q):tComp (tOfI X.K it) k js (tOfT' X.K t) (tOfT X.K tc) (tOf X.K c) σ H Q:=by
 obtain ⟨μ,ρ,S,d,S',sr,re,e,y⟩:=h
 obtain ⟨⟨items,w⟩,S0,e0,f0⟩:=bnd_ok e
 dsimp only at f0
 split at f0
 ·rename_i hlim
  obtain ⟨ys,S1,e1,f1⟩:=bnd_ok f0
  cases f1
  refine ⟨μ,ρ,S,items,w,S0,sr,re,e0,fun J H0 μ0 sr0 st0 io A hA=>?_⟩
  have reC:=(re.up st0).comp k js
  obtain ⟨srA,stA⟩:=sr0.other (o:=.lst []) hA
  have nA:A∉μ0:=sr0.out hA
  refine ⟨CompW X.K items w t tc c (stE k js ρ) μ0 H0 A S1 ys,
   ⟨items.length,⟨by simp,Nat.zero_le _,μ0,S0,[],ys,srA,stA,nA,upd_same,RVs.nil,by rw [List.drop_zero]; exact e1,rfl⟩⟩,?_⟩
  rintro i m us H2 ⟨him,hus,μ2,S2,acc,rest,sr2,st2,nA2,hA2,racc,el,eys⟩
  refine And.intro hA2 ?_
  by_cases hi:i<items.length
  ·rw [List.drop_eq_getElem_cons hi] at el
   unfold loopC at el
   split at el
   ·rename_i hw
    refine .inr ⟨io.go i H2 μ2 S2 sr2 st2 hw hi,lim_lt (by omega),fun x H3 hy=>?_⟩
    obtain ⟨d,hd,sr3,st3,rv⟩:=io.yld i H2 μ2 S2 x H3 sr2 st2 hw hi hy
    have ed:items[i]=d:=by rw [List.getElem?_eq_getElem hi] at hd; exact Option.some.inj hd
    rw [ed] at el
    have hA3:H3 A=some (.lst us):=st3.fr A _ nA2 hA2
    have st03:=st2.trans st3 sr3.nd
    split at el
    ·rename_i ρ4 h4
     refine bind_ok ht (reC.up st03) rv h4 (fun σ4 re4 wk=>⟨wk,?_⟩) h1
     obtain ⟨kb,S3,e3,f3⟩:=bnd_ok el
     refine ⟨μ2,ρ4,S2,kb,S3,sr3,re4,e3,fun H5 μ5 sr5 st5=>?_⟩
     have hA5:H5 A=some (.lst us):=st5.fr A _ nA2 hA3
     have nA5:=st5.notIn nA2 hA3
     have st05:=st03.trans st5 sr5.nd
     have st25:=st3.trans st5 sr5.nd
     cases kb with
     | true =>
      rw [if_pos rfl] at f3 ⊢
      obtain ⟨z,S4,e4,f4⟩:=bnd_ok f3
      obtain ⟨zs,S5,e5,f5⟩:=bnd_ok f4
      obtain ⟨rfl,rfl⟩:=ret_ok f5
      refine ⟨μ5,ρ4,S3,z,S4,sr5,re4.up st5,e4,fun v H6 μ6 sr6 st6 rv6=>?_⟩
      have hA6:H6 A=some (.lst us):=st6.fr A _ nA5 hA5
      have nA6:=st6.notIn nA5 hA5
      have st26:=st25.trans st6 sr6.nd
      have tku:TF X.K H6 (upd H6 A (.lst (us++[v]))):=tf_lst hA6
      refine ⟨hA6,m - 1,by omega,⟨by omega,by rw [List.length_append]; show us.length+1≤i+1; omega,μ6,S4,acc++[z],zs,sr6.acc nA6 hA6,(st05.trans st6 sr6.nd).acc hA hA6,nA6,upd_same,?_,e5,by rw [List.append_assoc]; exact eys⟩⟩
      exact RVs.up tku ⟨[],by simp⟩ _ _ ((RVs.up st26.tk st26.ext _ _ racc).append (.cons rv6 .nil))
     | false =>
      rw [if_neg Bool.false_ne_true] at f3 ⊢
      exact ⟨m - 1,by omega,⟨by omega,by omega,μ5,S3,acc,rest,sr5,st05,nA5,hA5,RVs.up st25.tk st25.ext _ _ racc,f3,eys⟩⟩
    ·cases el
   ·cases el
  ·have ei:i=items.length:=by omega
   subst ei
   rw [List.drop_length] at el
   unfold loopC at el
   split at el
   ·rename_i hw
    cases el
    rw [List.append_nil] at eys
    subst eys
    refine .inl ⟨io.stop H2 μ2 _ sr2 st2 hw,?_⟩
    have hA0:H A=none:=by
     cases q:H A with
     | none=>rfl
     | some o =>
      by_cases hm:A∈μ
      ·exact absurd (st0.mem hm) nA
      ·rw [st0.fr A o hm q] at hA; cases hA
    have sr3:=sr2.adopt nA2 hA2 racc
    refine y (.ref A) H2 (μ2++[A]) sr3 ((st0.trans st2 sr2.nd).adopt hA0) ?_
    unfold RV
    exact ⟨A,rfl,by rw [← sr2.len,List.getElem?_append_right (Nat.le_refl _),Nat.sub_self]; rfl⟩
   ·cases el
 ·cases f0
end
open PySem PySem.Spec PyProof.Rows
structure Sc where
 N:List Str
 names:List (Str × NameKind)
 fn:Option Str
structure XOk (X:Cx) (sc:Sc) (ar:Str→Option Nat) (cl:Str→List D→M D) (k:Nat):Prop where
 calm:X.calm=true
 N:X.N=sc.N
 nd:sc.N.Nodup
 gl:∀ x,sc.names.lookup x=some .globalImplicit→Gl X x
 loc:∀ x,sc.names.lookup x=some .local→X.env.scope.names.lookup x=some .local
 cel:∀ x,sc.names.lookup x=some .cell→X.env.scope.names.lookup x=some .cell
 fre:∀ x,sc.names.lookup x=some .free→X.env.scope.names.lookup x=some .cell∨X.env.scope.names.lookup x=some .free
 fnn:sc.fn.isSome=true→∀ x,X.fn x=true
 room:Room k X.A
 xe:X.xe=fun _ _=>False
 blt:∀ x:Str,x∈(["len","range","list","tuple","min","max","zip","isinstance","all","any","int","bool","enumerate","str","sorted","dict","sum","repr","set","abs"]:List Str)→ar x=none→X.mg x=none
 fns:∀ x n,ar x=some n→(∃ ps,Callee X.prog X.w X.K X.mg X.base x ps k (spOf X.K (cl x) n))∧∀ ds S d S',cl x ds S=.ok d S'→ds.length=n
section
variable {X:Cx}{sc:Sc}{ar:Str→Option Nat}{cl:Str→List D→M D}{k:Nat}
theorem XOk.vis (h:XOk X sc ar cl k) {x:Str} (hv:sc.names.lookup x=some .local∨sc.names.lookup x=some .cell∨sc.names.lookup x=some .free):Vis X.env.scope x:=by
 rcases hv with q | q | q
 ·exact .inl (h.loc x q)
 ·exact .inr (.inl (h.cel x q))
 ·exact .inr (h.fre x q)
noncomputable def isVis (o:Option NameKind):Bool:=o == some .local||o == some .cell||o == some .free
theorem isVis_or {o:Option NameKind} (h:isVis o=true):o=some .local∨o=some .cell∨o=some .free:=by
 unfold isVis at h
 simp only [Bool.or_eq_true,beq_iff_eq] at h
 rcases h with (h | h) | h
 ·exact .inl h
 ·exact .inr (.inl h)
 ·exact .inr (.inr h)
noncomputable def slotOf:List Str→Str→Nat→Option Nat
 | [],_,_=>none
 | y::r,x,i=>if y=x then some i else slotOf r x (i+1)
theorem slotOf_get:∀ {N:List Str}{x:Str}{i j:Nat},slotOf N x i=some j→i≤j∧N[j - i]?=some x
 | [],_,_,_,h=>by cases h
 | y::r,x,i,j,h=>by
  unfold slotOf at h
  split at h
  ·rename_i e; cases h; subst e; exact ⟨Nat.le_refl _,by simp⟩
  ·obtain ⟨h1,h2⟩:=slotOf_get h
   refine ⟨by omega,?_⟩
   have e:j - i=(j - (i+1))+1:=by omega
   rw [e,List.getElem?_cons_succ]; exact h2
noncomputable def cName (sc:Sc) (ar:Str→Option Nat) (x:Str):Option C:=match slotOf sc.N x 0 with
 | some i=>if isVis (sc.names.lookup x)&&!(x == ("__debug__":Str))&&!(x == ("__classdict__":Str)) then some (cVar i) else none
 | none=>if sc.names.lookup x=some .globalImplicit∧ar x=none then
   (if x=("int":Str) then some (cCon (.ty "int")) else if x=("bool":Str) then some (cCon (.ty "bool")) else if x=("tuple":Str) then some (cCon (.ty "tuple"))
    else if x=("list":Str) then some (cCon (.ty "list")) else if x=("str":Str) then some (cCon (.ty "str")) else none)
  else none
theorem s_name (h:XOk X sc ar cl k) {x:Str}{pos:Pos}{c:C} (e:cName sc ar x=some c):PE X (.Name x pos) (tOf X.K c):=by
 unfold cName at e
 split at e
 ·rename_i i hi
  split at e
  ·rename_i hv
   cases e
   simp only [Bool.and_eq_true,Bool.not_eq_true'] at hv
   obtain ⟨⟨h1,h2⟩,h3⟩:=hv
   have:=(slotOf_get hi).2
   exact se_var (pe_var (by rw [h.N]; exact this) (h.vis (isVis_or h1)) h2 h3)
  ·cases e
 ·split at e
  ·rename_i hg
   have g:=h.gl x hg.1
   have ty:∀ (n:String) (b:bootBuiltins x=some (.type n)) (hn:x ≠ "__name__") (hd:(x == ("__debug__":Str))=false) (hm:X.mg x=none),PE X (.Name x pos) (tOf X.K (cCon (.ty n))):=fun n b hn hd hm =>
    se_con (pe_bltn (v:=.ty n) g hm b rfl hn hd) fun K H μ=>by unfold RV; rfl
   split at e
   ·rename_i q; subst q; cases e
    exact ty "int" bt_int (by decide +kernel) (by decide +kernel) (h.blt _ (by decide +kernel) hg.2)
   ·split at e
    ·rename_i q; subst q; cases e
     exact ty "bool" bt_bool (by decide +kernel) (by decide +kernel) (h.blt _ (by decide +kernel) hg.2)
    ·split at e
     ·rename_i q; subst q; cases e
      exact ty "tuple" bt_tuple (by decide +kernel) (by decide +kernel) (h.blt _ (by decide +kernel) hg.2)
     ·split at e
      ·rename_i q; subst q; cases e
       exact ty "list" bt_list (by decide +kernel) (by decide +kernel) (h.blt _ (by decide +kernel) hg.2)
      ·split at e
       ·rename_i q; subst q; cases e
        exact ty "str" bt_str (by decide +kernel) (by decide +kernel) (h.blt _ (by decide +kernel) hg.2)
       ·cases e
  ·cases e
noncomputable def cConst:Const→Option C
 | .none=>some (cCon .non)
 | .bool b=>some (cCon (.bl b))
 | .int i=>some (cCon (.int i))
 | .str x=>some (cCon (.str x))
 | _=>none
theorem s_const {v:Const}{j:Nat}{pos:Pos}{c:C} (e:cConst v=some c):PE X (.Constant v j pos) (tOf X.K c):=by
 cases v with
 | none=>cases e; exact se_con pe_non fun _ _ _=>rv_non
 | bool b=>cases e; exact se_con pe_bl fun _ _ _=>rv_bl
 | int i=>cases e; exact se_con pe_int fun _ _ _=>rv_int
 | str x=>cases e; exact se_con pe_str fun _ _ _=>rv_str
 | _=>cases e
noncomputable def opBin:Operator→Option (D→D→M D)
 | .Add=>some oAdd
 | .Sub=>some (oInt fun i j=>i - j)
 | .Mult=>some oMul
 | .Mod=>some oMod
 | .FloorDiv=>some oDiv
 | .Pow=>some oPow
 | .LShift=>some oShl
 | .RShift=>some oShr
 | .BitAnd=>some (oInt Builtin.bitAnd)
 | .BitOr=>some (oInt Builtin.bitOr)
 | .BitXor=>some (oInt Builtin.bitXor)
 | _=>none
theorem s_op {op:Operator}{o:D→D→M D} (e:opBin op=some o):OpS X.K (rAny X (binaryOp op)) o:=by
 cases op with
 | Add=>cases e; exact os_add
 | Sub=>cases e; exact os_sub
 | Mult=>cases e; exact os_mul
 | Mod=>cases e; exact os_mod
 | FloorDiv=>cases e; exact os_div
 | Pow=>cases e; exact os_pow
 | LShift=>cases e; exact os_shl
 | RShift=>cases e; exact os_shr
 | BitAnd=>cases e; exact os_and
 | BitOr=>cases e; exact os_or
 | BitXor=>cases e; exact os_xor
 | _=>cases e
noncomputable def opCmp:CmpOp→Option (D→D→M D)
 | .Eq=>some oEq
 | .NotEq=>some oNe
 | .Lt=>some oLt
 | .LtE=>some (oCmp fun i j=>decide (i≤j))
 | .Gt=>some (oCmp fun i j=>decide (j<i))
 | .GtE=>some (oCmp fun i j=>decide (j≤i))
 | .Is=>some oIs
 | .IsNot=>some oIsNot
 | .In=>some (oIn false)
 | .NotIn=>some (oIn true)
theorem s_cmp (h:Room k X.A) {op:CmpOp}{o:D→D→M D} (e:opCmp op=some o):OpS X.K (rAny X (compareOp op)) o:=by
 have h1:=h.units
 have h2:=h.units0
 have h3:X.A.units+1<cLine:=hu_of h
 cases op with
 | Eq=>cases e; exact os_eq h1
 | NotEq=>cases e; exact os_ne h1
 | Lt=>cases e; exact os_lt h2
 | LtE=>cases e; exact os_le
 | Gt=>cases e; exact os_gt
 | GtE=>cases e; exact os_ge
 | Is=>cases e; exact os_is
 | IsNot=>cases e; exact os_isNot
 | In=>cases e; exact os_in h1
 | NotIn=>cases e; exact os_notIn h1
noncomputable def notStar:Expr→Bool
 | .Starred _ _=>false
 | _=>true
theorem star_cons {a:Expr}{es:List Expr}{env:Env} (h:notStar a=true):starEach (a::es) env=(false,eval a env)::starEach es env:=by
 cases a <;> first | rfl | cases h
noncomputable def cArgs? (f:Expr→Option C):List Expr→Option (List C)
 | []=>some []
 | e::es=>if notStar e then (f e).bind fun c=>(cArgs? f es).map (c::·) else none
def Keeps (X:Cx) (f:Expr→Option C):Prop:=∀ e c,f e=some c→PE X e (tOf X.K c)
variable {f:Expr→Option C}
theorem s_args (hf:Keeps X f):∀ {es:List Expr}{cs:List C},cArgs? f es=some cs→PA X es (tOfA X.K (cArgs cs))∧(∀ e∈es,notStar e=true)
 | [],cs,e=>by cases e; exact ⟨sa_nil,by simp⟩
 | a::es,cs,e=>by
  unfold cArgs? at e
  split at e
  ·rename_i hs
   obtain ⟨c,e1,e⟩:=Option.bind_eq_some_iff.mp e
   obtain ⟨cs',e2,e⟩:=Option.map_eq_some_iff.mp e
   subst e
   obtain ⟨h1,h2⟩:=s_args hf e2
   exact ⟨sa_cons (hf a c e1) h1 (star_cons hs),fun e he=>by
    rcases List.mem_cons.mp he with rfl | he
    ·exact hs
    ·exact h2 e he⟩
  ·cases e
theorem noStar_any {es:List Expr}{env:Env}{pos:Pos} (h:∀ e∈es,notStar e=true):(backTo pos (starEach es env)).any (·.1)=false:=by
 induction es with
 | nil=>rfl
 | cons a es ih =>
  rw [star_cons (h a (by simp))]
  show (false||(backTo pos (starEach es env)).any (·.1))=false
  rw [ih fun e he=>h e (by simp [he])]; rfl
noncomputable def isSlice:Expr→Bool
 | .Slice _ _ _ _=>true
 | _=>false
theorem plainIx {b:Expr} (h:isSlice b=false):PlainIx b:=by
 cases b <;> first | (intro o i; rfl) | cases h
noncomputable def cPart? (f:Expr→Option C):Option Expr→Option CO
 | none=>some cNoPart
 | some e=>(f e).map cPart
theorem s_part (hf:Keeps X f) {e:Option Expr}{c:CO} (h:cPart? f e=some c):PO X e (tOfO X.K c):=by
 cases e with
 | none=>cases h; exact so_none
 | some a =>
  obtain ⟨ca,e1,e2⟩:=Option.map_eq_some_iff.mp h
  subst e2
  exact so_some (hf a ca e1)
noncomputable def cSub (f:Expr→Option C) (a b:Expr):Option C:=match b with
 | .Slice lo hi none _=>(f a).bind fun ca=>(cPart? f lo).bind fun cl=>(cPart? f hi).map fun ch=>cSl oSl ca cl ch
 | _=>if isSlice b then none else (f a).bind fun ca=>(f b).map fun cb=>cBin oIx ca cb
theorem s_sub (h:Room k X.A) (hf:Keeps X f) {a b:Expr}{pos:Pos}{c:C} (e:cSub f a b=some c):PE X (.Subscript a b pos) (tOf X.K c):=by
 unfold cSub at e
 split at e
 ·obtain ⟨ca,e1,e⟩:=Option.bind_eq_some_iff.mp e
  obtain ⟨cl,e2,e⟩:=Option.bind_eq_some_iff.mp e
  obtain ⟨ch,e3,e⟩:=Option.map_eq_some_iff.mp e
  subst e
  exact se_slice ss_sl (hf a ca e1) (s_part hf e2) (s_part hf e3)
 ·split at e
  ·cases e
  ·rename_i hs
   obtain ⟨ca,e1,e⟩:=Option.bind_eq_some_iff.mp e
   obtain ⟨cb,e2,e⟩:=Option.map_eq_some_iff.mp e
   subst e
   exact se_ix (os_ix (hu_of h)) (hf a ca e1) (hf b cb e2) (plainIx (by simpa using hs))
noncomputable def cCompare (f:Expr→Option C) (a:Expr) (ops:List CmpOp) (bs:List Expr):Option C:=match ops,bs with
 | [op],[b]=>if behindInMarks op b then none else (opCmp op).bind fun o=>(f a).bind fun ca=>(f b).map fun cb=>cBin o ca cb
 | [op,op'],[b,c]=>if lastMarks [op,op'] [b,c] then none else (opCmp op).bind fun o=>(opCmp op').bind fun o'=>(f a).bind fun ca=>(f b).bind fun cb=>(f c).map fun cc=>cChain o o' ca cb cc
 | _,_=>none
theorem s_compare (h:Room k X.A) (hf:Keeps X f) {a:Expr}{ops:List CmpOp}{bs:List Expr}{pos:Pos}{c:C} (e:cCompare f a ops bs=some c):PE X (.Compare a ops bs pos) (tOf X.K c):=by
 unfold cCompare at e
 split at e
 ·rename_i op b
  split at e
  ·cases e
  ·rename_i hm
   obtain ⟨o,e0,e⟩:=Option.bind_eq_some_iff.mp e
   obtain ⟨ca,e1,e⟩:=Option.bind_eq_some_iff.mp e
   obtain ⟨cb,e2,e⟩:=Option.map_eq_some_iff.mp e
   subst e
   exact se_cmp (s_cmp h e0) (hf a ca e1) (hf b cb e2) (by simpa using hm)
 ·rename_i op op' b c
  split at e
  ·cases e
  ·rename_i hm
   obtain ⟨o,e0,e⟩:=Option.bind_eq_some_iff.mp e
   obtain ⟨o',e0',e⟩:=Option.bind_eq_some_iff.mp e
   obtain ⟨ca,e1,e⟩:=Option.bind_eq_some_iff.mp e
   obtain ⟨cb,e2,e⟩:=Option.bind_eq_some_iff.mp e
   obtain ⟨cc,e3,e⟩:=Option.map_eq_some_iff.mp e
   subst e
   exact se_chain (s_cmp h e0) (s_cmp h e0') (hf a ca e1) (hf b cb e2) (hf c cc e3) (by simpa using hm)
 ·cases e
noncomputable def tCompare (f:Expr→Option C) (a:Expr) (ops:List CmpOp) (bs:List Expr):Option CT:=match ops,bs with
 | ops,bs=>(cCompare f a ops bs).map cBool
theorem s_tcompare (h:Room k X.A) (hf:Keeps X f) {a:Expr}{ops:List CmpOp}{bs:List Expr}{pos:Pos}{c:CT} (e:tCompare f a ops bs=some c):PT X (.Compare a ops bs pos) (tOfT X.K c):=by
 unfold tCompare at e
 split at e
 ·obtain ⟨cc,e1,e⟩:=Option.map_eq_some_iff.mp e
  subst e
  unfold cCompare at e1
  split at e1
  ·split at e1
   ·cases e1
   ·rename_i hm
    obtain ⟨o,e0,e⟩:=Option.bind_eq_some_iff.mp e1
    obtain ⟨ca,g1,e⟩:=Option.bind_eq_some_iff.mp e
    obtain ⟨cb,e2,e⟩:=Option.map_eq_some_iff.mp e
    subst e
    exact st_cmp (s_cmp h e0) (hf _ ca g1) (hf _ cb e2) (by simpa using hm)
  ·split at e1
   ·cases e1
   ·rename_i hm
    obtain ⟨o,e0,e⟩:=Option.bind_eq_some_iff.mp e1
    obtain ⟨o',e0',e⟩:=Option.bind_eq_some_iff.mp e
    obtain ⟨ca,g1,e⟩:=Option.bind_eq_some_iff.mp e
    obtain ⟨cb,e2,e⟩:=Option.bind_eq_some_iff.mp e
    obtain ⟨cc,e3,e⟩:=Option.map_eq_some_iff.mp e
    subst e
    exact st_chain (s_cmp h e0) (s_cmp h e0') (hf _ ca g1) (hf _ cb e2) (hf _ cc e3) (by simpa using hm)
  ·cases e1
noncomputable def plainRecv:Expr→Bool
 | .Name _ _=>true
 | .Subscript _ _ _=>true
 | .Call _ (_::_) _ _=>true
 | _=>false
theorem base_ok {o:Expr}{name:Str}{env:Env} (h:plainRecv o=true):attributeBase o name env (eval o env)=eval o env:=by
 cases o with
 | Call f args kw pos =>
  cases args with
  | nil=>cases h
  | cons a r=>cases f <;> rfl
 | _=>first | rfl | cases h
noncomputable def bltOf (x:Str):Option (List D→M D) :=
 if x=("len":Str) then some fLen else
 if x=("isinstance":Str) then some fInst else
 if x=("tuple":Str) then some fTuple else
 if x=("list":Str) then some fList else
 if x=("min":Str) then some fMin else
 if x=("max":Str) then some fMax else
 if x=("all":Str) then some (fBools fun bs=>bs.all id) else
 if x=("any":Str) then some (fBools fun bs=>bs.any id) else
 if x=("int":Str) then some fInt else
 none
noncomputable def rangeArgs:Expr→Option (List Expr)
 | .Call (.Name x _) as [] _=>if x=("range":Str) then some as else none
 | _=>none
noncomputable def fListR:List D→M D:=fun xs S=>match xs with
 | [.int j]=>if -4611686018427387904≤j∧j<4611686018427387904∧j≤1000 then .ok (.lst S.length) (S++[.lst (upD 0 j.toNat)]) else .bad
 | [.int i,.int j]=>if -4611686018427387904≤i∧i<4611686018427387904∧-4611686018427387904≤j∧j<4611686018427387904∧j - i≤1000 then .ok (.lst S.length) (S++[.lst (upD i (j - i).toNat)]) else .bad
 | _=>.bad
noncomputable def cCallN (sc:Sc) (ar:Str→Option Nat) (cl:Str→List D→M D) (f:Expr→Option C) (x:Str) (es:List Expr):Option C :=
 if sc.names.lookup x=some .globalImplicit then
  match ar x with
  | some n=>if es.length=n∧es≠[]∧(x == ("__debug__":Str))=false then (cArgs? f es).map fun cs=>cApp (cl x) (cArgs cs) else none
  | none=>match es with
   | [e] =>
    match rangeArgs e with
    | some as=>if x=("list":Str)∧ar "range"=none∧sc.names.lookup ("range":Str)=some .globalImplicit∧(as.length=1∨as.length=2) then (cArgs? f as).map fun cs=>cApp fListR (cArgs cs) else none
    | none=>(bltOf x).bind fun o=>(cArgs? f es).map fun cs=>cApp o (cArgs cs)
   | _::_=>(bltOf x).bind fun o=>(cArgs? f es).map fun cs=>cApp o (cArgs cs)
   | []=>none
 else none
theorem vals_upD {K:W.Frag}{H:Hp}{μ:List Addr} (lo:Int) (n:Nat):RVs K H μ (upD lo n) (upV lo n):=by
 unfold upD upV
 generalize List.range n=l
 induction l with
 | nil=>exact .nil
 | cons a r ih=>exact .cons rv_int ih
set_option maxHeartbeats 2000000 in
theorem s_blt (h:XOk X sc ar cl k) {x:Str} (hx:sc.names.lookup x=some .globalImplicit) (hn:ar x=none) {o:List D→M D} (eo:bltOf x=some o) {e:Expr}{es:List Expr}{cs:List C} (ha:PA X (e::es) (tOfA X.K (cArgs cs))) (hs:∀ a∈e::es,notStar a=true) {p pos:Pos}:PE X (.Call (.Name x p) (e::es) [] pos) (tOf X.K (cApp o (cArgs cs))):=by
 have g:=h.gl x hx
 have s1:=star_cons (es:=es) (env:=X.env) (hs e (by simp))
 have s2:(backTo pos (starEach es X.env)).any (·.1)=false:=noStar_any fun a ha=>hs a (by simp [ha])
 unfold bltOf at eo
 have B:∀ (id:String) (hb:bootBuiltins x=some (.builtin id)) (hm:X.mg x=none) (hne:x ≠ "__name__") (hd:(x == ("__debug__":Str))=false) (o:List D→M D),CallS X.K (cAny X (.builtin id)) o→PE X (.Call (.Name x p) (e::es) [] pos) (tOf X.K (cApp o (cArgs cs))):=fun id hb hm hne hd o ho =>
  (pe_callB callAny g hm hb ha hne hd s1 s2).weak (of_app ho)
 have T:∀ (id:String) (hb:bootBuiltins x=some (.type id)) (hm:X.mg x=none) (hne:x ≠ "__name__") (hd:(x == ("__debug__":Str))=false) (o:List D→M D),CallS X.K (cAny X (.type id)) o→PE X (.Call (.Name x p) (e::es) [] pos) (tOf X.K (cApp o (cArgs cs))):=fun id hb hm hne hd o ho =>
  (pe_callTy callAny g hm hb ha hne hd s1 s2).weak (of_app ho)
 split at eo
 ·rename_i q; subst q; cases eo; exact B "len" bt_len (h.blt _ (by decide +kernel) hn) (by decide +kernel) (by decide +kernel) _ cs_len
 split at eo
 ·rename_i q; subst q; cases eo; exact B "isinstance" bt_isinstance (h.blt _ (by decide +kernel) hn) (by decide +kernel) (by decide +kernel) _ cs_inst
 split at eo
 ·rename_i q; subst q; cases eo; exact T "tuple" bt_tuple (h.blt _ (by decide +kernel) hn) (by decide +kernel) (by decide +kernel) _ cs_tuple
 split at eo
 ·rename_i q; subst q; cases eo; exact T "list" bt_list (h.blt _ (by decide +kernel) hn) (by decide +kernel) (by decide +kernel) _ cs_list
 split at eo
 ·rename_i q; subst q; cases eo; exact B "min" bt_min (h.blt _ (by decide +kernel) hn) (by decide +kernel) (by decide +kernel) _ (cs_min h.calm)
 split at eo
 ·rename_i q; subst q; cases eo; exact B "max" bt_max (h.blt _ (by decide +kernel) hn) (by decide +kernel) (by decide +kernel) _ (cs_max h.calm)
 split at eo
 ·rename_i q; subst q; cases eo; exact B "all" bt_all (h.blt _ (by decide +kernel) hn) (by decide +kernel) (by decide +kernel) _ (cs_all h.calm)
 split at eo
 ·rename_i q; subst q; cases eo; exact B "any" bt_any (h.blt _ (by decide +kernel) hn) (by decide +kernel) (by decide +kernel) _ (cs_any h.calm)
 split at eo
 ·rename_i q; subst q; cases eo; exact T "int" bt_int (h.blt _ (by decide +kernel) hn) (by decide +kernel) (by decide +kernel) _ cs_int
 cases eo
theorem s_listR (h:XOk X sc ar cl k) (hx:sc.names.lookup ("list":Str)=some .globalImplicit) (hn:ar "list"=none) (hr:sc.names.lookup ("range":Str)=some .globalImplicit) (hnr:ar "range"=none) {as:List Expr}{cs:List C} (ha:PA X as (tOfA X.K (cArgs cs))) (hs:∀ a∈as,notStar a=true) (hl:as.length=1∨as.length=2) {p pos p2 pos2:Pos} :
  PE X (.Call (.Name "list" p) [.Call (.Name "range" p2) as [] pos2] [] pos) (tOf X.K (cApp fListR (cArgs cs))):=by
 have g1:=h.gl _ hx
 have g2:=h.gl _ hr
 have R:PE X (.Call (.Name "range" p2) as [] pos2) (tCB (cAny X (.type "range")) (tOfA X.K (cArgs cs))):=by
  cases as with
  | nil=>simp at hl
  | cons e es=>exact pe_callTy callAny g2 (h.blt _ (by decide +kernel) hnr) bt_range ha (by decide +kernel) (by decide +kernel) (star_cons (hs e (by simp))) (noStar_any fun a ha=>hs a (by simp [ha]))
 have L:=pe_callTy (p:=p) (pos:=pos) (callAny (X:=X) (f:=.type "list")) g1 (h.blt _ (by decide +kernel) hn) bt_list (pa_cons R pa_nil rfl) (by decide +kernel) (by decide +kernel) rfl rfl
 refine L.weak ?_
 rintro σ H Q ⟨μ,ρ,S,d,S',sr,re,e,y⟩
 obtain ⟨xs,S1,e1,e⟩:=bnd_ok e
 refine ⟨μ,ρ,S,xs,S1,sr,re,e1,fun vs H1 μ1 sr1 st1 r1=>?_⟩
 have y1:=y.shift st1
 have fin:∀ (i j:Int),-4611686018427387904≤i→i<4611686018427387904→-4611686018427387904≤j→j<4611686018427387904→j - i≤1000→Yld X.K μ1 H1 (.lst S1.length) (S1++[.lst (upD i (j - i).toNat)]) Q→∀ q,H1 q=none→cAny X (.type "list") [.ref q] (upd H1 q (.rng i j)) Q:=by
  intro i j b1 b2 b3 b4 b5 y1 q hq
  obtain ⟨sr2,st2⟩:=sr1.other (o:=.rng i j) hq
  exact ⟨_,call_list_rng h.calm,q,i,j,rfl,upd_same,b1,b2,b3,b4,by omega,fun l hl=>(y1.shift st2).newL sr2 hl (vals_upD _ _)⟩
 unfold fListR at e
 split at e
 ·rename_i j
  split at e
  ·rename_i hb
   cases e
   obtain ⟨v,rfl,r⟩:=r1.one
   unfold RV at r; subst r
   refine ⟨_,call_range1,j,rfl,fun q hq=>?_⟩
   have:=fin 0 j (by decide) (by decide) hb.1 hb.2.1 (by omega) (by rw [Int.sub_zero]; exact y1) q hq
   exact this
  ·cases e
 ·rename_i i j
  split at e
  ·rename_i hb
   cases e
   obtain ⟨v,u,rfl,r,r'⟩:=r1.two
   unfold RV at r r'; subst r r'
   exact ⟨_,call_range2,i,j,rfl,fun q hq=>fin i j hb.1 hb.2.1 hb.2.2.1 hb.2.2.2.1 hb.2.2.2.2 y1 q hq⟩
  ·cases e
 ·cases e
theorem s_callN (h:XOk X sc ar cl k) (hf:Keeps X f) {x:Str}{es:List Expr}{c:C}{p pos:Pos} (e:cCallN sc ar cl f x es=some c):PE X (.Call (.Name x p) es [] pos) (tOf X.K c):=by
 unfold cCallN at e
 split at e
 ·rename_i hx
  split at e
  ·rename_i n hn
   split at e
   ·rename_i hc
    obtain ⟨hl,hne,hd⟩:=hc
    obtain ⟨cs,e1,e⟩:=Option.map_eq_some_iff.mp e
    subst e
    obtain ⟨h1,h2⟩:=s_args hf e1
    obtain ⟨⟨ps,Ca⟩,hlen⟩:=h.fns x n hn
    cases es with
    | nil=>exact absurd rfl hne
    | cons a es =>
     exact (pe_callC (p:=p) (pos:=pos) Ca h.room (h.gl x hx) h1 (Nat.le_refl _) hd (star_cons (h2 a (by simp))) (noStar_any fun b hb=>h2 b (by simp [hb]))).weak (of_call hlen)
   ·cases e
  ·rename_i hn
   split at e
   ·rename_i a
    split at e
    ·rename_i as ha
     split at e
     ·rename_i hc
      obtain ⟨rfl,hnr,hr,hl⟩:=hc
      obtain ⟨cs,e1,e⟩:=Option.map_eq_some_iff.mp e
      subst e
      obtain ⟨h1,h2⟩:=s_args hf e1
      unfold rangeArgs at ha
      split at ha
      ·rename_i x' p' as' pos'
       split at ha
       ·rename_i q; subst q; cases ha
        exact s_listR h hx hn hr hnr h1 h2 hl
       ·cases ha
      ·cases ha
     ·cases e
    ·obtain ⟨o,e0,e⟩:=Option.bind_eq_some_iff.mp e
     obtain ⟨cs,e1,e⟩:=Option.map_eq_some_iff.mp e
     subst e
     obtain ⟨h1,h2⟩:=s_args hf e1
     exact s_blt h hx hn e0 h1 h2
   ·obtain ⟨o,e0,e⟩:=Option.bind_eq_some_iff.mp e
    obtain ⟨cs,e1,e⟩:=Option.map_eq_some_iff.mp e
    subst e
    obtain ⟨h1,h2⟩:=s_args hf e1
    exact s_blt h hx hn e0 h1 h2
   ·cases e
 ·cases e
end
open PySem PySem.Spec PyProof.Rows
section
variable {X:Cx}{sc:Sc}{ar:Str→Option Nat}{cl:Str→List D→M D}{k:Nat}{f:Expr→Option C}
noncomputable def meth0 (m:Str) (co:C):Option C :=
 if m=("bit_length":Str) then some (cMeth0 "int" mBits co) else
 none
noncomputable def meth1 (m:Str) (co ca:C):Option C :=
 if m=("append":Str) then some (cMeth "list" (mList gAppend) co (cArgs [ca])) else
 none
noncomputable def meth2 (m:Str) (co ca cb:C):Option C :=
 if m=("insert":Str) then some (cMeth "list" (mList gInsert) co (cArgs [ca,cb])) else
 none
noncomputable def cMethod (f:Expr→Option C) (o:Expr) (m:Str) (es:List Expr) (apos cpos:Pos):Option C :=
 if plainRecv o&&(apos.endLine == cpos.line) then (f o).bind fun co=>match es with
  | []=>meth0 m co
  | [a]=>if notStar a then (f a).bind fun ca=>meth1 m co ca else none
  | [a,b]=>if notStar a&&notStar b then (f a).bind fun ca=>(f b).bind fun cb=>meth2 m co ca cb else none
  | _=>none
 else none
theorem s_method (hr0:Room k X.A) (hf:Keeps X f) {o:Expr}{m:Str}{es:List Expr}{apos cpos:Pos}{c:C} (e:cMethod f o m es apos cpos=some c):PE X (.Call (.Attribute o m apos) es [] cpos) (tOf X.K c):=by
 unfold cMethod at e
 split at e
 ·rename_i hc
  rw [Bool.and_eq_true] at hc
  obtain ⟨hr,hl⟩:=hc
  obtain ⟨co,e0,g⟩:=Option.bind_eq_some_iff.mp e
  clear e
  have hb:∀ name,attributeBase o name X.env (eval o X.env)=eval o X.env:=fun name=>base_ok hr
  split at g
  ·unfold meth0 at g
   split at g
   ·rename_i q; subst q; cases g
    exact se_meth0 PySem.F.plainAttrs_int PySem.F.slot_int_bit_length PySem.F.type_int_bit_length ms_bits (hf o co e0) (hb _) hl
   cases g
  ·rename_i a
   split at g
   ·rename_i hs
    obtain ⟨ca,e1,g'⟩:=Option.bind_eq_some_iff.mp g
    clear g
    have s1:=star_cons (es:=[]) (env:=X.env) hs
    have hA:PA X [a] (tOfA X.K (cArgs [ca])):=sa_cons (hf a ca e1) sa_nil s1
    have hfew:((backTo cpos (starEach [a] X.env)).all (fun x=>!x.1)&&(backToKw cpos (keywordEach [] X.env)).all (fun x=>x.1.isSome)
     && decide ([a].length+([]:List Keyword).length+(if ([]:List Keyword).isEmpty then 0 else 1)<30))=true:=by rw [s1]; rfl
    unfold meth1 at g'
    split at g'
    ·rename_i q; subst q; cases g'
     exact se_meth PySem.F.plainAttrs_list PySem.F.slot_list_append PySem.F.type_list_append ms_append (hf o co e0) hA (hb _) hfew hl s1 rfl
    cases g'
   ·cases g
  ·rename_i a b
   split at g
   ·rename_i hs
    rw [Bool.and_eq_true] at hs
    obtain ⟨ca,e1,g1⟩:=Option.bind_eq_some_iff.mp g
    obtain ⟨cb,e2,g'⟩:=Option.bind_eq_some_iff.mp g1
    clear g g1
    have s2:=star_cons (es:=[]) (env:=X.env) hs.2
    have s1:=star_cons (es:=[b]) (env:=X.env) hs.1
    have hA:PA X [a,b] (tOfA X.K (cArgs [ca,cb])):=sa_cons (hf a ca e1) (sa_cons (hf b cb e2) sa_nil s2) s1
    have hfew:((backTo cpos (starEach [a,b] X.env)).all (fun x=>!x.1)&&(backToKw cpos (keywordEach [] X.env)).all (fun x=>x.1.isSome)
     && decide ([a,b].length+([]:List Keyword).length+(if ([]:List Keyword).isEmpty then 0 else 1)<30))=true:=by rw [s1,s2]; rfl
    unfold meth2 at g'
    split at g'
    ·rename_i q; subst q; cases g'
     exact se_meth PySem.F.plainAttrs_list PySem.F.slot_list_insert PySem.F.type_list_insert ms_insert (hf o co e0) hA (hb _) hfew hl s1 (by rw [s2]; rfl)
    cases g'
   ·cases g
  ·cases g
 ·cases e
noncomputable def cDNew:C:=fun _ S=>.ok (.dct S.length) (S++[.dk []])
theorem se_dnew {pos:Pos}:PE X (.Dict [] [] pos) (tOf X.K cDNew):=pe_dnewK.weak (by
 rintro σ H Q ⟨μ,ρ,S,d,S',sr,re,e,y⟩
 unfold cDNew at e
 cases e
 intro p hp
 obtain ⟨s1,s2⟩:=sr.push (o:=.dK []) (o':=.dk []) hp ⟨[],upd_same,RKs.nil⟩
 exact y _ _ _ s1 s2 (by unfold RV; exact ⟨p,rfl,by rw [← sr.len,List.getElem?_append_right (Nat.le_refl _),Nat.sub_self]; rfl⟩))
noncomputable def cDOne (a b:C):C:=fun ρ=>bnd (a ρ) fun x=>bnd (b ρ) fun y S=>match keyOf x with
 | some k=>.ok (.dct S.length) (S++[.dk [(k,y)]])
 | none=>.bad
theorem se_done {a b:Expr}{ca cb:C}{pos:Pos} (ha:PE X a (tOf X.K ca)) (hb:PE X b (tOf X.K cb)):PE X (.Dict [some a] [b] pos) (tOf X.K (cDOne ca cb)):=(pe_disp (pps_cons ha hb pps_nil) rfl rfl (by simp) (by simp)).weak (by
 rintro σ H Q ⟨μ,ρ,S,d,S',sr,re,e,y⟩
 obtain ⟨x,S1,e1,f1⟩:=bnd_ok e
 obtain ⟨z,S2,e2,f2⟩:=bnd_ok f1
 split at f2
 ·rename_i key hk
  cases f2
  intro p hp
  obtain ⟨s1,s2⟩:=sr.other (o:=.dK []) hp
  refine ⟨μ,ρ,S,x,S1,s1,re.up s2,e1,fun v H1 μ1 sr1 st1 r1=>⟨μ1,ρ,S1,z,S2,sr1,(re.up s2).up st1,e2,fun u H2 μ2 sr2 st2 r2=>?_⟩⟩
  have n0:p∉μ:=sr.out hp
  have q0:upd H p (.dK []) p=some (.dK []):=upd_same
  have q1:=st1.fr p _ n0 q0
  have n1:=st1.notIn n0 q0
  have q2:=st2.fr p _ n1 q1
  have n2:=st2.notIn n1 q1
  have ev:=keyOf_v hk r1
  subst ev
  refine ⟨q2,[(key,u)],rfl,by simp,?_⟩
  have e3:mergeK [] [(key,u)]=[(key,u)]:=by simp [mergeK,putK]
  rw [e3]
  have tk:TF X.K H2 (upd H2 p (.dK [(key,u)])):=tf_upd q2 (fun _ z=>by cases z) (fun _ _ z=>by cases z)
  have st12:=st1.trans st2 sr2.nd
  have st02:Step X.K μ μ2 H H2:=s2.trans st12 sr2.nd
  have sr3:SR X.K (μ2++[p]) (S2++[.dk [(key,z)]]) (upd H2 p (.dK [(key,u)])):=by
   refine ⟨by simp [sr2.len],?_,fun n a w g1 g2=>?_⟩
   ·rw [List.nodup_append]
    refine ⟨sr2.nd,by simp,fun a ha b hb=>?_⟩
    simp at hb; subst hb
    exact fun z=>n2 (z▸ha)
   ·by_cases hn:n<μ2.length
    ·rw [List.getElem?_append_left hn] at g1
     rw [List.getElem?_append_left (by rw [← sr2.len]; exact hn)] at g2
     exact (sr2.obj n a w g1 g2).up tk ⟨[p],rfl⟩ (upd_ne fun z=>n2 (z▸List.mem_of_getElem? g1))
    ·rw [List.getElem?_append_right (by omega)] at g1
     rw [List.getElem?_append_right (by rw [← sr2.len]; omega)] at g2
     have h1:n - μ2.length=0:=by
      have:=(List.getElem?_eq_some_iff.mp g1).1
      simp at this; omega
     rw [h1] at g1
     rw [← sr2.len,h1] at g2
     simp at g1 g2
     subst g1 g2
     exact ⟨[(key,u)],upd_same,RKs.cons (RV.up tk ⟨[p],rfl⟩ _ _ r2) .nil⟩
  have st3:Step X.K μ (μ2++[p]) H (upd H2 p (.dK [(key,u)])):=by
   obtain ⟨ν,e4,n⟩:=st02.pre
   refine ⟨⟨ν++[p],by rw [e4,List.append_assoc],fun b hb=>?_⟩,fun b o hb q=>by rw [upd_ne (ne_of_none q hp)]; exact st02.fr b o hb q,st02.tk.trans tk⟩
   rcases List.mem_append.mp hb with h | h
   ·exact n b h
   ·simp at h; subst h; exact hp
  exact y _ _ _ sr3 st3 (by unfold RV; exact ⟨p,rfl,by rw [← sr2.len,List.getElem?_append_right (Nat.le_refl _),Nat.sub_self]; rfl⟩)
 ·cases f2)
noncomputable def cDict (f:Expr→Option C) (ks:List (Option Expr)) (vs:List Expr):Option C:=match ks,vs with
 | [],[]=>some cDNew
 | [some a],[b]=>(f a).bind fun ca=>(f b).map fun cb=>cDOne ca cb
 | _,_=>none
theorem s_dict (hf:Keeps X f) {ks:List (Option Expr)}{vs:List Expr}{pos:Pos}{c:C} (e:cDict f ks vs=some c):PE X (.Dict ks vs pos) (tOf X.K c):=by
 unfold cDict at e
 split at e
 ·cases e; exact se_dnew
 ·obtain ⟨ca,e1,e⟩:=Option.bind_eq_some_iff.mp e
  obtain ⟨cb,e2,e⟩:=Option.map_eq_some_iff.mp e
  subst e
  exact se_done (hf _ _ e1) (hf _ _ e2)
 ·cases e
noncomputable def cBoolV (op:BoolOp) (f:Expr→Option C):List Expr→Option C
 | []=>none
 | [a]=>f a
 | a::b::r=>(f a).bind fun ca=>(cBoolV op f (b::r)).map fun cb=>match op with
  | .And=>cAndV ca cb
  | .Or=>cOrV ca cb
theorem s_boolV (hf:Keeps X f) {op:BoolOp}{pos:Pos}:∀ {vs:List Expr}{c:C},cBoolV op f vs=some c→PE X (.BoolOp op vs pos) (tOf X.K c)
 | [],c,e=>by cases e
 | [a],c,e=>pe_one (hf a c e)
 | a::b::r,c,e=>by
  unfold cBoolV at e
  obtain ⟨ca,e1,e⟩:=Option.bind_eq_some_iff.mp e
  obtain ⟨cb,e2,e⟩:=Option.map_eq_some_iff.mp e
  subst e
  cases op with
  | And=>exact se_and (hf a ca e1) (s_boolV hf e2)
  | Or=>exact se_or (hf a ca e1) (s_boolV hf e2)
def KeepsT (X:Cx) (t:Expr→Option CT):Prop:=∀ e c,t e=some c→PT X e (tOfT X.K c)
variable {t:Expr→Option CT}
noncomputable def cBoolT (op:BoolOp) (t:Expr→Option CT):List Expr→Option CT
 | []=>none
 | [a]=>t a
 | a::b::r=>(t a).bind fun ca=>(cBoolT op t (b::r)).map fun cb=>match op with
  | .And=>cAndT ca cb
  | .Or=>cOrT ca cb
theorem s_boolT (ht:KeepsT X t) {op:BoolOp}{pos:Pos}:∀ {vs:List Expr}{c:CT},cBoolT op t vs=some c→PW X (.BoolOp op vs pos) (tOfT X.K c)
 | [],c,e=>by cases e
 | [a],c,e=>by
  cases op with
  | And=>exact pw_and1 (ht a c e)
  | Or=>exact pw_or1 (ht a c e)
 | a::b::r,c,e=>by
  unfold cBoolT at e
  obtain ⟨ca,e1,e⟩:=Option.bind_eq_some_iff.mp e
  obtain ⟨cb,e2,e⟩:=Option.map_eq_some_iff.mp e
  subst e
  cases op with
  | And=>exact sw_and (ht a ca e1) (s_boolT ht e2)
  | Or=>exact sw_or (ht a ca e1) (s_boolT ht e2)
noncomputable def isTuple:Expr→Bool
 | .Tuple _ _ _=>true
 | _=>false
noncomputable def isSet:Expr→Bool
 | .Set _ _ _=>true
 | _=>false
theorem folded_ok {iter:Expr}{env:Env} (h:isSet iter=false):∀ x,foldedSetIterable iter env x=pure x:=by
 cases iter <;> first | (intro x; rfl) | cases h
noncomputable def cRangeI (o:Option (List C)) (es:List Expr):Option CI:=o.bind fun cs=>match es with
 | [_]=>some (iRange1 (cArgs cs))
 | [_,_]=>some (iRange2 (cArgs cs))
 | _=>none
noncomputable def cZipI (t:Bool) (o:Option (List C)) (es:List Expr):Option CI:=if t=true then o.bind fun cs=>match es with
  | [_,_]=>some (iZipL (cArgs cs))
  | _=>none
 else none
noncomputable def cEnumI (t:Bool) (o:Option (List C)) (es:List Expr):Option CI:=if t=true then o.bind fun cs=>match es with
  | [_]=>some (iEnumT (cArgs cs))
  | _=>none
 else none
noncomputable def cIter (sc:Sc) (ar:Str→Option Nat) (f:Expr→Option C) (tg iter:Expr):Option CI:=if isSet iter then none else match iter with
 | .Call (.Name x _) es [] _=>if sc.names.lookup x=some .globalImplicit∧ar x=none then
   (if x=("range":Str) then cRangeI (cArgs? f es) es else
    if x=("zip":Str) then cZipI (isTuple tg) (cArgs? f es) es else
    if x=("enumerate":Str) then cEnumI (isTuple tg) (cArgs? f es) es else
    (f iter).map iSeq)
  else (f iter).map iSeq
 | _=>(f iter).map iSeq
theorem s_rangeI (hf:Keeps X f) {tg:Expr}{es:List Expr}{c:CI}{p pos:Pos} (g:Gl X "range") (hm:X.mg "range"=none) (e:cRangeI (cArgs? f es) es=some c):PI X tg (.Call (.Name "range" p) es [] pos) (tOfI X.K c):=by
 obtain ⟨cs,e1,e2⟩:=Option.bind_eq_some_iff.mp e
 clear e
 obtain ⟨h1,h2⟩:=s_args hf e1
 match es,h1,h2,e2 with
 | [a],h1,h2,e2 =>
  cases e2
  exact si_range1 (pi_range1 g hm h1 (by rw [star_cons (h2 a (by simp))]; rfl))
 | [a,b],h1,h2,e2 =>
  cases e2
  exact si_range2 (pi_range2 g hm h1 (by rw [star_cons (h2 a (by simp)),star_cons (h2 b (by simp))]; rfl) (by rw [star_cons (h2 b (by simp))]; rfl))
 | [],h1,h2,e2=>cases e2
 | _::_::_::_,h1,h2,e2=>cases e2
theorem is_tup {tg:Expr} (h:isTuple tg=true):∃ es k pos,tg=.Tuple es k pos:=by
 cases tg <;> first | exact ⟨_,_,_,rfl⟩ | cases h
theorem s_zipI (hf:Keeps X f) {tg:Expr}{es:List Expr}{c:CI}{p pos:Pos} (g:Gl X "zip") (hm:X.mg "zip"=none) (e:cZipI (isTuple tg) (cArgs? f es) es=some c):PI X tg (.Call (.Name "zip" p) es [] pos) (tOfI X.K c):=by
 unfold cZipI at e
 by_cases ht:isTuple tg=true
 ·rw [if_pos ht] at e
  obtain ⟨ts,kt,pt,rfl⟩:=is_tup ht
  obtain ⟨cs,e1,e2⟩:=Option.bind_eq_some_iff.mp e
  clear e ht
  obtain ⟨h1,h2⟩:=s_args hf e1
  match es,h1,h2,e2 with
  | [a,b],h1,h2,e2 =>
   cases e2
   exact si_zip (pi_zipX g hm h1 (by rw [star_cons (h2 a (by simp)),star_cons (h2 b (by simp))]; rfl) (by rw [star_cons (h2 b (by simp))]; rfl))
  | _::_::_::_,h1,h2,e2=>cases e2
  | [],h1,h2,e2=>cases e2
  | [_],h1,h2,e2=>cases e2
 ·rw [if_neg ht] at e; cases e
theorem s_enumI (hf:Keeps X f) {tg:Expr}{es:List Expr}{c:CI}{p pos:Pos} (g:Gl X "enumerate") (hm:X.mg "enumerate"=none) (e:cEnumI (isTuple tg) (cArgs? f es) es=some c):PI X tg (.Call (.Name "enumerate" p) es [] pos) (tOfI X.K c):=by
 unfold cEnumI at e
 by_cases ht:isTuple tg=true
 ·rw [if_pos ht] at e
  obtain ⟨ts,kt,pt,rfl⟩:=is_tup ht
  obtain ⟨cs,e1,e2⟩:=Option.bind_eq_some_iff.mp e
  clear e ht
  obtain ⟨h1,h2⟩:=s_args hf e1
  match es,h1,h2,e2 with
  | [a],h1,h2,e2 =>
   cases e2
   exact si_enum (pi_enumL g hm h1 (by rw [star_cons (h2 a (by simp))]; rfl))
  | [],h1,h2,e2=>cases e2
  | _::_::_,h1,h2,e2=>cases e2
 ·rw [if_neg ht] at e; cases e
theorem s_iter (h:XOk X sc ar cl k) (hf:Keeps X f) {tg iter:Expr}{c:CI} (e:cIter sc ar f tg iter=some c):PI X tg iter (tOfI X.K c)∧isSet iter=false:=by
 unfold cIter at e
 split at e
 ·cases e
 rename_i hset
 refine ⟨?_,by simpa using hset⟩
 have dflt:∀ {c},(f iter).map iSeq=some c→PI X tg iter (tOfI X.K c):=fun e=>by
  obtain ⟨ca,e1,e⟩:=Option.map_eq_some_iff.mp e
  subst e
  exact si_seq (hf _ _ e1)
 split at e
 ·rename_i x p es pos
  split at e
  ·rename_i hx
   have g:=h.gl x hx.1
   split at e
   ·rename_i q; subst q
    exact s_rangeI hf g (h.blt _ (by decide +kernel) hx.2) e
   split at e
   ·rename_i q; subst q
    exact s_zipI hf g (h.blt _ (by decide +kernel) hx.2) e
   split at e
   ·rename_i q; subst q
    exact s_enumI hf g (h.blt _ (by decide +kernel) hx.2) e
   exact dflt e
  ·exact dflt e
 ·exact dflt e
noncomputable def namesOf:List Expr→Option (List Str)
 | []=>some []
 | .Name x _::r=>(namesOf r).map (x::·)
 | _::_=>none
noncomputable def tgtOf:Expr→Option (Tgt × List Str)
 | .Name x _=>some (.one,[x])
 | .Tuple es _ _=>(namesOf es).map fun xs=>(.many xs.length,xs)
 | _=>none
noncomputable def freesOf (ns:List (Str × NameKind)):List Str:=(ns.filter fun y=>y.2 == .free).map (·.1)
noncomputable def slots (N:List Str):List Str→Option (List Nat)
 | []=>some []
 | x::r=>(slotOf N x 0).bind fun j=>(slots N r).map (j::·)
noncomputable def compSc (xs:List Str) (scope:Scope):Sc:=⟨xs++freesOf scope.names,scope.names,none⟩
noncomputable def compOk (sc:Sc) (xs:List Str) (scope:Scope):Bool :=
 decide (scope.kind=.function)&&scope.names.all (fun y=>y.2 != .cell||scope.names.lookup y.1 == some .cell)&&scope.names.all (fun y=>y.2 != .local||scope.names.lookup y.1 == some .local)
 && decide ((xs++freesOf scope.names).Nodup)&&xs.all (fun x=>scope.names.lookup x == some .local||scope.names.lookup x == some .cell)&&decide (1≤xs.length)
 && (freesOf scope.names).all (fun x=>(sc.names.lookup x == some .cell||sc.names.lookup x == some .free)&&scope.names.lookup x == some .free)
noncomputable def cCompr (sc:Sc) (it:Option CI) (fe:Sc→Expr→Option C) (ft:Sc→Expr→Option CT) (tg elt:Expr) (ifs:List Expr) (scope:Scope):Option C :=
 (tgtOf tg).bind fun p=>if compOk sc p.2 scope then (slots sc.N (freesOf scope.names)).bind fun js=>it.bind fun ci=>(fe (compSc p.2 scope) elt).bind fun ce=>match ifs with
  | []=>some (cComp ci p.2.length js p.1 (fun _=>ret true) ce)
  | [q]=>(ft (compSc p.2 scope) q).map fun ct=>cComp ci p.2.length js p.1 ct ce
  | _=>none
 else none
theorem slots_get {N:List Str}:∀ {xs:List Str}{js:List Nat},slots N xs=some js→js.length=xs.length∧∀ (i j:Nat),js[i]?=some j→∃ x,xs[i]?=some x∧N[j]?=some x
 | [],js,e=>by cases e; exact ⟨rfl,fun i j h=>by simp at h⟩
 | x::r,js,e=>by
  unfold slots at e
  obtain ⟨j0,e1,e⟩:=Option.bind_eq_some_iff.mp e
  obtain ⟨js',e2,e⟩:=Option.map_eq_some_iff.mp e
  subst e
  obtain ⟨h1,h2⟩:=slots_get e2
  refine ⟨by simp [h1],fun i j h=>?_⟩
  cases i with
  | zero=>simp at h; subst h; exact ⟨x,rfl,(slotOf_get e1).2⟩
  | succ i =>
   rw [List.getElem?_cons_succ] at h
   obtain ⟨y,g1,g2⟩:=h2 i j h
   exact ⟨y,by rw [List.getElem?_cons_succ]; exact g1,g2⟩
theorem relabel_glob {env:Env}:∀ {names:List (Str × NameKind)}{x:Str}{k:NameKind},k≠.free→names.lookup x=some k →
  (names.map fun (n,k)=>if (k == NameKind.free&&env.scope.kind == .function&&env.kindOf n == some .cell) then (n,NameKind.cell) else (n,k)).lookup x=some k
 | [],_,_,_,h=>by simp at h
 | (n,k')::r,x,k,nf,h=>by
  have ih:=@relabel_glob env r x k nf
  show List.lookup x ((if (k' == NameKind.free&&env.scope.kind == .function&&env.kindOf n == some .cell)=true then (n,NameKind.cell) else (n,k'))::_)=_
  cases hx:x == n with
  | true =>
   simp only [List.lookup_cons,hx] at h
   cases h
   have e:(k' == NameKind.free)=false:=by simpa using nf
   simp [List.lookup_cons,hx,e]
  | false =>
   simp only [List.lookup_cons,hx] at h
   by_cases hc:(k' == NameKind.free&&env.scope.kind == .function&&env.kindOf n == some .cell)=true
   ·rw [if_pos hc]; simp only [List.lookup_cons,hx]; exact ih h
   ·rw [if_neg hc]; simp only [List.lookup_cons,hx]; exact ih h
theorem look_mem {ns:List (Str × NameKind)}{x:Str}{k:NameKind} (h:ns.lookup x=some k):(x,k)∈ns:=mem_of_look h
theorem XOk.comp (h:XOk X sc ar cl k) {xs:List Str}{scope:Scope} (hc:compOk sc xs scope=true) (cl':List (Str × Addr)) (s:Shared) (H:Hp) (C:Addr) (ex:List Addr):XOk (cxComp X scope (xs++freesOf scope.names) cl' s H C ex) (compSc xs scope) ar cl k:=by
 unfold compOk at hc
 simp only [Bool.and_eq_true,decide_eq_true_eq] at hc
 obtain ⟨⟨⟨⟨⟨⟨c1,c2⟩,c3⟩,c4⟩,c5⟩,c6⟩,c7⟩:=hc
 exact {
  calm:=h.calm
  N:=rfl
  nd:=c4
  gl:=fun x hx=>relabel_glob (by decide) hx
  loc:=fun x hx=>relabel_glob (by decide) hx
  cel:=fun x hx=>relabel_glob (by decide) hx
  fre:=fun x hx=>relabel_free hx
  fnn:=fun z=>by cases z
  room:=h.room
  xe:=rfl
  blt:=h.blt
  fns:=h.fns }
theorem namesOf_get:∀ {es:List Expr}{xs:List Str},namesOf es=some xs→es.length=xs.length∧∀ (i:Nat) (e:Expr),es[i]?=some e→∃ x pos,e=.Name x pos∧xs[i]?=some x
 | [],xs,h=>by cases h; exact ⟨rfl,fun i e h=>by simp at h⟩
 | a::r,xs,h=>by
  cases a with
  | Name x pos =>
   unfold namesOf at h
   obtain ⟨ys,e1,e⟩:=Option.map_eq_some_iff.mp h
   subst e
   obtain ⟨h1,h2⟩:=namesOf_get e1
   refine ⟨by simp [h1],fun i e he=>?_⟩
   cases i with
   | zero=>simp at he; subst he; exact ⟨x,pos,rfl,rfl⟩
   | succ i =>
    rw [List.getElem?_cons_succ] at he
    obtain ⟨y,p,g1,g2⟩:=h2 i e he
    exact ⟨y,p,g1,by rw [List.getElem?_cons_succ]; exact g2⟩
  | _=>cases h
theorem assignEach_name {x:Str}{pos:Pos}{es:List Expr}{env:Env}:assignEach (.Name x pos::es) env=(false,assign (.Name x pos) env)::assignEach es env:=rfl
theorem pgs_names:∀ {es:List Expr}{s:Nat},(∀ (i:Nat) (e:Expr),es[i]?=some e→∃ x pos,e=.Name x pos∧X.N[s+i]?=some x∧Loc X.env.scope x∧(X.fn x=true∨X.env.scope.names.lookup x=some .local))→X.N.Nodup→PGs X es (gNames s es.length)
 | [],s,h,nd=>pgs_nil
 | a::r,s,h,nd=>by
  obtain ⟨x,pos,rfl,g1,g2,g3⟩:=h 0 a rfl
  refine pgs_cons (pg_name nd (by simpa using g1) g2 g3) (pgs_names (s:=s+1) (fun i e he=>?_) nd) rfl
  obtain ⟨y,p,q1,q2,q3⟩:=h (i+1) e (by rw [List.getElem?_cons_succ]; exact he)
  exact ⟨y,p,q1,by rw [show s+1+i=s+(i+1) by omega]; exact q2,q3⟩
theorem assignEach_names {env:Env}:∀ {es:List Expr}{xs:List Str},namesOf es=some xs→(assignEach es env).length=xs.length∧(assignEach es env).findIdx? (·.1)=none
 | [],xs,h=>by cases h; exact ⟨rfl,rfl⟩
 | a::r,xs,h=>by
  cases a with
  | Name x pos =>
   unfold namesOf at h
   obtain ⟨ys,e1,e⟩:=Option.map_eq_some_iff.mp h
   subst e
   obtain ⟨h1,h2⟩:=assignEach_names (env:=env) e1
   rw [assignEach_name]
   exact ⟨by simp [h1],by rw [List.findIdx?_cons]; simp [h2]⟩
  | _=>cases h
theorem tgt_len {tg:Expr}{t:Tgt}{xs:List Str} (e:tgtOf tg=some (t,xs)):tgtK t=xs.length:=by
 cases tg with
 | Name x pos=>cases e; rfl
 | Tuple es n pos =>
  unfold tgtOf at e
  obtain ⟨ys,e1,e⟩:=Option.map_eq_some_iff.mp e
  cases e
  rfl
 | _=>cases e
theorem tgt_kind {X':Cx}{sc':Sc} (h:XOk X' sc' ar cl k) {x:Str} (g:sc'.names.lookup x=some .local∨sc'.names.lookup x=some .cell∧X'.fn x=true):Loc X'.env.scope x∧(X'.fn x=true∨X'.env.scope.names.lookup x=some .local):=by
 rcases g with g | ⟨g,f⟩
 ·exact ⟨.inl (h.loc x g),.inr (h.loc x g)⟩
 ·exact ⟨.inr (h.cel x g),.inl f⟩
theorem s_tgt {X':Cx}{sc':Sc} (h:XOk X' sc' ar cl k) {tg:Expr}{t:Tgt}{xs:List Str} (e:tgtOf tg=some (t,xs)) (hN:∀ (i:Nat) (x:Str),xs[i]?=some x→sc'.N[i]?=some x∧(sc'.names.lookup x=some .local∨sc'.names.lookup x=some .cell∧X'.fn x=true)):PG X' tg (tOfT' X'.K t)∧tgtK t=xs.length:=by
 have nd:X'.N.Nodup:=by rw [h.N]; exact h.nd
 cases tg with
 | Name x pos =>
  cases e
  obtain ⟨g1,g2⟩:=hN 0 x rfl
  obtain ⟨l1,l2⟩:=tgt_kind h g2
  exact ⟨pg_name nd (by rw [h.N]; exact g1) l1 l2,rfl⟩
 | Tuple es n pos =>
  unfold tgtOf at e
  obtain ⟨ys,e1,e⟩:=Option.map_eq_some_iff.mp e
  cases e
  obtain ⟨a1,a2⟩:=assignEach_names (env:=X'.env) e1
  obtain ⟨n1,n2⟩:=namesOf_get e1
  refine ⟨?_,rfl⟩
  have:=pgs_names (X:=X') (es:=es) (s:=0) (fun i e he=>by
   obtain ⟨x,pos,rfl,g⟩:=n2 i e he
   obtain ⟨g1,g2⟩:=hN i x g
   obtain ⟨l1,l2⟩:=tgt_kind h g2
   exact ⟨x,pos,rfl,by rw [h.N,Nat.zero_add]; exact g1,l1,l2⟩) nd
  rw [n1] at this
  exact pg_tup h.calm this a1 a2
 | _=>cases e
theorem comp_h (h:XOk X sc ar cl k) {xs:List Str}{scope:Scope}{js:List Nat} (hc:compOk sc xs scope=true) (e1:slots sc.N (freesOf scope.names)=some js):CompH X scope (xs++freesOf scope.names) xs.length js:=by
 obtain ⟨l1,l2⟩:=slots_get e1
 unfold compOk at hc
 simp only [Bool.and_eq_true,decide_eq_true_eq] at hc
 obtain ⟨⟨⟨⟨⟨⟨c1,c2⟩,c3⟩,c4⟩,c5⟩,c6⟩,c7⟩:=hc
 have hf7:∀ x,(x,NameKind.free)∈scope.names→(sc.names.lookup x=some .cell∨sc.names.lookup x=some .free)∧scope.names.lookup x=some .free:=fun x hx=>by
  have hm:x∈freesOf scope.names:=by
   unfold freesOf
   rw [List.mem_map]
   exact ⟨(x,.free),by rw [List.mem_filter]; exact ⟨hx,by simp⟩,rfl⟩
  have:=List.all_eq_true.mp c7 x hm
  simpa using this
 refine ⟨h.calm,c1,fun x hx=>?_,fun x hx=>?_,fun x hx hxl=>?_,?_,fun i j hj=>?_⟩
 ·have:=List.all_eq_true.mp c2 _ hx
  simpa using this
 ·rcases (hf7 x hx).1 with q | q
  ·exact .inl (h.cel x q)
  ·exact h.fre x q
 ·have:=List.all_eq_true.mp c3 x hx
  simp only [Bool.or_eq_true,bne_iff_ne,ne_eq,beq_iff_eq] at this
  rcases this with z | z
  ·exact absurd hxl z
  ·exact z
 ·rw [List.length_append,l1]
 ·obtain ⟨x,g1,g2⟩:=l2 i j hj
  have hm:(x,NameKind.free)∈scope.names:=by
   have:=List.mem_of_getElem? g1
   unfold freesOf at this
   rw [List.mem_map] at this
   obtain ⟨⟨y,ky⟩,m1,m2⟩:=this
   rw [List.mem_filter] at m1
   dsimp only at m2
   subst m2
   have:ky=.free:=by simpa using m1.2
   subst this
   exact m1.1
  obtain ⟨v1,v2⟩:=hf7 x hm
  refine ⟨x,?_,by rw [h.N]; exact g2,v2,h.vis (.inr v1)⟩
  rw [List.getElem?_append_right (by omega),Nat.add_sub_cancel_left]; exact g1
theorem comp_t (h:XOk X sc ar cl k) {xs:List Str}{scope:Scope}{tg:Expr}{t:Tgt} (hc:compOk sc xs scope=true) (e0:tgtOf tg=some (t,xs)) (cl':List (Str × Addr)) (s:Shared) (H:Hp) (C:Addr) (ex:List Addr):PG (cxComp X scope (xs++freesOf scope.names) cl' s H C ex) tg (tOfT' X.K t) :=
 (s_tgt (h.comp hc cl' s H C ex) e0 fun i x hx=>by
  unfold compOk at hc
  simp only [Bool.and_eq_true,decide_eq_true_eq] at hc
  have c5:=hc.1.1.2
  have hl:=(List.getElem?_eq_some_iff.mp hx).1
  refine ⟨?_,?_⟩
  ·show (xs++freesOf scope.names)[i]?=some x
   rw [List.getElem?_append_left hl]; exact hx
  ·have:=List.all_eq_true.mp c5 x (List.mem_of_getElem? hx)
   rw [Bool.or_eq_true,beq_iff_eq,beq_iff_eq] at this
   rcases this with z | z
   ·exact .inl z
   ·exact .inr ⟨z,decide_eq_true (look_mem z)⟩).1
inductive ComprE (X:Cx) (sc:Sc) (tg iter elt:Expr) (ifs:List Expr) (scope:Scope) (c:C):Prop
 | mk (t:Tgt) (xs:List Str) (js:List Nat) (ci:CI) (ct:CT) (ce:C) (B:CompH X scope (xs++freesOf scope.names) xs.length js) (hi:PI X tg iter (tOfI X.K ci)) (hs:isSet iter=false)
  (hg:∀ cl' s H C ex,PG (cxComp X scope (xs++freesOf scope.names) cl' s H C ex) tg (tOfT' X.K t)) (hT:∀ cl' s H C ex,PTs (cxComp X scope (xs++freesOf scope.names) cl' s H C ex) ifs (tOfT X.K ct))
  (hE:∀ cl' s H C ex,PE (cxComp X scope (xs++freesOf scope.names) cl' s H C ex) elt (tOf X.K ce)) (ht:tgtK t≤xs.length) (h1:1≤xs.length) (hc:c=cComp ci xs.length js t ct ce)
theorem compr_e (h:XOk X sc ar cl k) {it:Option CI}{fe:Sc→Expr→Option C}{ft:Sc→Expr→Option CT}{tg iter elt:Expr}{ifs:List Expr}{scope:Scope}{c:C} (e:cCompr sc it fe ft tg elt ifs scope=some c)
  (hi:∀ ci,it=some ci→PI X tg iter (tOfI X.K ci)∧isSet iter=false) (hfe:∀ X' sc',XOk X' sc' ar cl k→Keeps X' (fe sc')) (hft:∀ X' sc',XOk X' sc' ar cl k→KeepsT X' (ft sc')):ComprE X sc tg iter elt ifs scope c:=by
 unfold cCompr at e
 obtain ⟨⟨t,xs⟩,e0,e⟩:=Option.bind_eq_some_iff.mp e
 dsimp only at e
 by_cases hc:compOk sc xs scope=true
 ·rw [if_pos hc] at e
  obtain ⟨js,e1,u1⟩:=Option.bind_eq_some_iff.mp e
  obtain ⟨ci,e2,u2⟩:=Option.bind_eq_some_iff.mp u1
  obtain ⟨ce,e3,u3⟩:=Option.bind_eq_some_iff.mp u2
  clear e u1 u2
  obtain ⟨i1,i2⟩:=hi ci e2
  have c6:1≤xs.length:=by
   have hc':=hc
   unfold compOk at hc'
   simp only [Bool.and_eq_true,decide_eq_true_eq] at hc'
   exact hc'.1.2
  have hE:=fun cl' s H C ex=>hfe _ _ (h.comp hc cl' s H C ex) elt ce e3
  have ht:tgtK t≤xs.length:=by rw [tgt_len e0]; exact Nat.le_refl _
  cases ifs with
  | nil =>
   cases u3
   exact ⟨t,xs,js,ci,_,ce,comp_h h hc e1,i1,i2,comp_t h hc e0,fun cl' s H C ex pins s' σ H' Q I ⟨μ,ρ,S,d,S',sr,re,e,y⟩=>pts_nil pins s' σ H' Q I (by obtain ⟨rfl,rfl⟩:=ret_ok e; exact y H' μ sr (Step.refl _ _ _)),hE,ht,c6,rfl⟩
  | cons q r =>
   cases r with
   | nil =>
    obtain ⟨ct,e4,u4⟩:=Option.map_eq_some_iff.mp u3
    exact ⟨t,xs,js,ci,ct,ce,comp_h h hc e1,i1,i2,comp_t h hc e0,fun cl' s H C ex=>pts_one (hft _ _ (h.comp hc cl' s H C ex) q ct e4),hE,ht,c6,u4.symm⟩
   | cons _ _=>cases u3
 ·rw [if_neg hc] at e; cases e
theorem s_compr (h:XOk X sc ar cl k) {it:Option CI}{fe:Sc→Expr→Option C}{ft:Sc→Expr→Option CT}{tg iter elt:Expr}{ifs:List Expr}{scope:Scope}{pos:Pos}{c:C} (e:cCompr sc it fe ft tg elt ifs scope=some c)
  (hi:∀ ci,it=some ci→PI X tg iter (tOfI X.K ci)∧isSet iter=false) (hfe:∀ X' sc',XOk X' sc' ar cl k→Keeps X' (fe sc')) (hft:∀ X' sc',XOk X' sc' ar cl k→KeepsT X' (ft sc')):PE X (.ListComp elt [⟨tg,iter,ifs,0⟩] scope pos) (tOf X.K c):=by
 obtain ⟨t,xs,js,ci,ct,ce,B,i1,i2,hg,hT,hE,ht,h1,rfl⟩:=compr_e h e hi hfe hft
 exact (pe_comp B i1 hg hT hE (folded_ok i2)).weak fun σ H Q q=>of_comp ht h1 q
theorem s_comprU (h:XOk X sc ar cl k) {it:Option CI}{fe:Sc→Expr→Option C}{ft:Sc→Expr→Option CT}{tg iter elt:Expr}{ifs:List Expr}{scope:Scope}{pos pos' spos:Pos}{y0:Str}{go:TG} (hgo:PG X (.Name y0 pos') go) (hsw:swapsWith (.ListComp elt [⟨tg,iter,ifs,0⟩] scope pos) (some (.Name y0 pos')) spos.line X.env=pure true) {c:C} (e:cCompr sc it fe ft tg elt ifs scope=some c)
  (hi:∀ ci,it=some ci→PI X tg iter (tOfI X.K ci)∧isSet iter=false) (hfe:∀ X' sc',XOk X' sc' ar cl k→Keeps X' (fe sc')) (hft:∀ X' sc',XOk X' sc' ar cl k→KeepsT X' (ft sc')):PS X (.Assign [.Name y0 pos'] (.ListComp elt [⟨tg,iter,ifs,0⟩] scope pos) spos) (tAsg (tOf X.K c) go):=by
 obtain ⟨t,xs,js,ci,ct,ce,B,i1,i2,hg,hT,hE,ht,h1,rfl⟩:=compr_e h e hi hfe hft
 exact (ps_compSet hgo hsw B i1 hg hT hE (folded_ok i2)).weak fun D σ H q=>of_comp ht h1 q
end
open PySem PySem.Spec PyProof.Rows
section
variable (ar:Str→Option Nat) (cl:Str→List D→M D)
mutual
noncomputable def cE:Nat→Sc→Expr→Option C
 | 0,_,_=>none
 | n+1,sc,e=>match e with
  | .Constant v _ _=>cConst v
  | .Name x _=>cName sc ar x
  | .BinOp a op b _=>(opBin op).bind fun o=>(cE n sc a).bind fun ca=>(cE n sc b).map fun cb=>cBin o ca cb
  | .UnaryOp op a _=>match op with
   | .USub=>(cE n sc a).map fun ca=>cUn oNeg ca
   | .Not=>(cE n sc a).map fun ca=>cNotV ca
   | _=>none
  | .BoolOp op vs _=>cBoolV op (cE n sc) vs
  | .IfExp t a b _=>(cT n sc t).bind fun ct=>(cE n sc a).bind fun ca=>(cE n sc b).map fun cb=>cIf ct ca cb
  | .Compare a ops bs _=>cCompare (cE n sc) a ops bs
  | .Tuple es _ _=>(cArgs? (cE n sc) es).bind fun cs=>if cs.length≤1000 then some (cTup (cArgs cs)) else none
  | .List es _=>(cArgs? (cE n sc) es).bind fun cs=>if cs.length≤1000 then some (cLst (cArgs cs)) else none
  | .Subscript a b _=>cSub (cE n sc) a b
  | .Dict ks vs _=>cDict (cE n sc) ks vs
  | .Call fn es kw cpos=>match kw with
   | []=>match fn with
    | .Name x _=>cCallN sc ar cl (cE n sc) x es
    | .Attribute o m apos=>cMethod (cE n sc) o m es apos cpos
    | _=>none
   | _::_=>none
  | .ListComp elt gens scope _=>match gens with
   | [⟨tg,iter,ifs,ia⟩]=>if ia=0 then cCompr sc (cIter sc ar (cE n sc) tg iter) (cE n) (cT n) tg elt ifs scope else none
   | _=>none
  | _=>none
noncomputable def cT:Nat→Sc→Expr→Option CT
 | 0,_,_=>none
 | n+1,sc,e=>match e with
  | .UnaryOp op a _=>match op with
   | .Not=>(cT n sc a).map fun ca=>cNotT ca
   | _=>(cE n sc e).map cTru
  | .BoolOp op vs _=>cBoolT op (cT n sc) vs
  | .IfExp _ _ _ _=>none
  | .Compare a ops bs _=>tCompare (cE n sc) a ops bs
  | _=>(cE n sc e).map cTru
end
end
section
variable {X:Cx}{sc:Sc}{ar:Str→Option Nat}{cl:Str→List D→M D}{k:Nat}
theorem s_all:∀ n:Nat,(∀ X sc,XOk X sc ar cl k→Keeps X (cE ar cl n sc))∧(∀ X sc,XOk X sc ar cl k→KeepsT X (cT ar cl n sc))
 | 0=>⟨fun X sc h e c q=>(by cases q),fun X sc h e c q=>(by cases q)⟩
 | n+1=>by
  obtain ⟨ihE,ihT⟩:=s_all n
  refine ⟨fun X sc h e c q=>?_,fun X sc h e c q=>?_⟩
  ·have hf:=ihE X sc h
   have ht:=ihT X sc h
   cases e with
   | Constant v j pos=>exact s_const q
   | Name x pos=>exact s_name h q
   | BinOp a op b pos =>
    obtain ⟨o,e0,q1⟩:=Option.bind_eq_some_iff.mp q
    obtain ⟨ca,e1,q2⟩:=Option.bind_eq_some_iff.mp q1
    obtain ⟨cb,e2,q3⟩:=Option.map_eq_some_iff.mp q2
    subst q3
    exact se_bin (s_op e0) (hf _ _ e1) (hf _ _ e2)
   | UnaryOp op a pos =>
    cases op with
    | USub =>
     obtain ⟨ca,e1,q2⟩:=Option.map_eq_some_iff.mp q
     subst q2
     exact se_un us_neg (hf _ _ e1)
    | Not =>
     obtain ⟨ca,e1,q2⟩:=Option.map_eq_some_iff.mp q
     subst q2
     exact se_not (hf _ _ e1)
    | _=>cases q
   | BoolOp op vs pos=>exact s_boolV hf q
   | IfExp t a b pos =>
    obtain ⟨ct,e0,q1⟩:=Option.bind_eq_some_iff.mp q
    obtain ⟨ca,e1,q2⟩:=Option.bind_eq_some_iff.mp q1
    obtain ⟨cb,e2,q3⟩:=Option.map_eq_some_iff.mp q2
    subst q3
    exact se_ifExp (ht _ _ e0) (hf _ _ e1) (hf _ _ e2)
   | Compare a ops bs pos=>exact s_compare h.room hf q
   | Tuple es j pos =>
    obtain ⟨cs,e1,q1⟩:=Option.bind_eq_some_iff.mp q
    split at q1
    ·rename_i hl; cases q1; exact se_tup (s_args hf e1).1 hl
    ·cases q1
   | List es pos =>
    obtain ⟨cs,e1,q1⟩:=Option.bind_eq_some_iff.mp q
    split at q1
    ·rename_i hl; cases q1; exact se_lst (s_args hf e1).1 hl
    ·cases q1
   | Subscript a b pos=>exact s_sub h.room hf q
   | Dict ks vs pos=>exact s_dict hf q
   | Call fn es kw cpos =>
    cases kw with
    | cons _ _=>cases q
    | nil =>
     cases fn with
     | Name x p=>exact s_callN h hf q
     | Attribute o m apos=>exact s_method h.room hf q
     | _=>cases q
   | ListComp elt gens scope pos =>
    cases gens with
    | nil=>cases q
    | cons g gs =>
     obtain ⟨tg,iter,ifs,ia⟩:=g
     cases gs with
     | cons _ _=>cases q
     | nil =>
      change (if ia=0 then cCompr sc (cIter sc ar (cE ar cl n sc) tg iter) (cE ar cl n) (cT ar cl n) tg elt ifs scope else none)=some c at q
      split at q
      ·rename_i hz
       subst hz
       exact s_compr h q (fun ci e=>s_iter h hf e) (fun X' sc' h'=>ihE X' sc' h') (fun X' sc' h'=>ihT X' sc' h')
      ·cases q
   | _=>cases q
  ·have hf:=ihE X sc h
   have ht:=ihT X sc h
   have dflt:∀ {c:CT},(cE ar cl n sc e).map cTru=some c→(∀ whole,isTrue e X.env whole=(do let v ← whole; standAt e.pos; holding [v] (truthy v)))→PT X e (tOfT X.K c):=fun {c} q he=>by
    obtain ⟨ca,e1,q2⟩:=Option.map_eq_some_iff.mp q
    subst q2
    exact st_tru (hf _ _ e1) he
   cases e with
   | UnaryOp op a pos =>
    cases op with
    | Not =>
     obtain ⟨ca,e1,q2⟩:=Option.map_eq_some_iff.mp q
     subst q2
     exact st_not (ht _ _ e1)
    | USub=>exact dflt q fun _=>rfl
    | UAdd=>exact dflt q fun _=>rfl
    | Invert=>exact dflt q fun _=>rfl
   | BoolOp op vs pos=>exact (s_boolT ht q).pt
   | IfExp t a b pos=>cases q
   | Compare a ops bs pos=>exact s_tcompare h.room hf q
   | _=>exact dflt q fun _=>rfl
section
variable (ar:Str→Option Nat) (cl:Str→List D→M D)
noncomputable def cTg (sc:Sc) (x:Str):Option G:=(slotOf sc.N x 0).bind fun i=>if sc.names.lookup x=some .local∨(sc.fn.isSome=true∧sc.names.lookup x=some .cell) then some (gN i) else none
mutual
noncomputable def cG:Nat→Sc→Expr→Option G
 | 0,_,_=>none
 | n+1,sc,e=>match e with
  | .Name x _=>cTg sc x
  | .Subscript a b _=>match b with
   | _=>if isSlice b then none else (cE ar cl n sc a).bind fun ca=>(cE ar cl n sc b).map fun cb=>gS ca cb
  | .Tuple es _ _=>(cGs n sc es).map fun gs=>gT gs
  | _=>none
noncomputable def cGs:Nat→Sc→List Expr→Option (List G)
 | 0,_,_=>none
 | n+1,sc,es=>match es with
  | []=>some []
  | e::r=>if notStar e then (cG n sc e).bind fun g=>(cGs n sc r).map fun gs=>g::gs else none
end
end
theorem XOk.nd' (h:XOk X sc ar cl k):X.N.Nodup:=by rw [h.N]; exact h.nd
theorem s_tg (h:XOk X sc ar cl k) {x:Str}{g:G} (e:cTg sc x=some g):∃ i,g=gN i∧X.N[i]?=some x∧Loc X.env.scope x∧(X.fn x=true∨X.env.scope.names.lookup x=some .local):=by
 unfold cTg at e
 obtain ⟨i,e1,e2⟩:=Option.bind_eq_some_iff.mp e
 split at e2
 ·rename_i hc
  cases e2
  refine ⟨i,rfl,by rw [h.N]; exact (slotOf_get e1).2,?_⟩
  rcases hc with q | ⟨q1,q2⟩
  ·exact ⟨.inl (h.loc x q),.inr (h.loc x q)⟩
  ·exact ⟨.inr (h.cel x q2),.inl (h.fnn q1 x)⟩
 ·cases e2
theorem assign_sub {a b:Expr}{pos:Pos}{env:Env} (h:isSlice b=false):∀ v,assign (.Subscript a b pos) env v=(do
   let ov ← holding [v] (eval a env)
   let iv ← holding [v,ov] (eval b env)
   standAt pos
   holding [v,ov,iv] (setItem ov iv v)
   release [v,ov,iv] []):=by
 cases b <;> first | (intro v; rfl) | cases h
theorem assignEach_cons {e:Expr}{es:List Expr}{env:Env} (h:notStar e=true):assignEach (e::es) env=(false,assign e env)::assignEach es env:=by
 cases e <;> first | rfl | cases h
theorem s_G:∀ n:Nat,(∀ X sc,XOk X sc ar cl k→∀ e g,cG ar cl n sc e=some g→PG X e (tOfG X.K g))∧(∀ X sc,XOk X sc ar cl k→∀ es gs,cGs ar cl n sc es=some gs→PGs X es (tOfGs X.K gs)∧(assignEach es X.env).length=gs.length∧(assignEach es X.env).findIdx? (·.1)=none)
 | 0=>⟨fun X sc h e c q=>(by cases q),fun X sc h e c q=>(by cases q)⟩
 | n+1=>by
  obtain ⟨ih,ihs⟩:=s_G n
  refine ⟨fun X sc h e g q=>?_,fun X sc h es gs q=>?_⟩
  ·cases e with
   | Name x pos =>
    obtain ⟨i,rfl,h1,h2,h3⟩:=s_tg h q
    exact sg_name (pg_name h.nd' h1 h2 h3)
   | Subscript a b pos =>
    change (if isSlice b then none else (cE ar cl n sc a).bind fun ca=>(cE ar cl n sc b).map fun cb=>gS ca cb)=_ at q
    split at q
    ·cases q
    ·rename_i hs
     obtain ⟨ca,e1,q1⟩:=Option.bind_eq_some_iff.mp q
     obtain ⟨cb,e2,q2⟩:=Option.map_eq_some_iff.mp q1
     subst q2
     exact sg_sub (hu_of h.room) ((s_all n).1 X sc h _ _ e1) ((s_all n).1 X sc h _ _ e2) (assign_sub (by simpa using hs))
   | Tuple es j pos =>
    obtain ⟨gs,e1,q1⟩:=Option.map_eq_some_iff.mp q
    subst q1
    obtain ⟨h1,h2,h3⟩:=ihs X sc h es gs e1
    exact sg_tup h.calm h1 h2 h3
   | _=>cases q
  ·cases es with
   | nil=>cases q; exact ⟨sgs_nil,rfl,rfl⟩
   | cons e r =>
    change (if notStar e=true then (cG ar cl n sc e).bind fun g=>(cGs ar cl n sc r).map fun gs=>g::gs else none)=_ at q
    split at q
    ·rename_i hs
     obtain ⟨g,e1,q1⟩:=Option.bind_eq_some_iff.mp q
     obtain ⟨gs',e2,q2⟩:=Option.map_eq_some_iff.mp q1
     subst q2
     obtain ⟨h1,h2,h3⟩:=ihs X sc h r gs' e2
     have ha:=assignEach_cons (es:=r) (env:=X.env) hs
     refine ⟨sgs_cons (ih X sc h e g e1) h1 (by rw [ha]; rfl),by rw [ha]; simp [h2],by rw [ha,List.findIdx?_cons]; simp [h3]⟩
    ·cases q
noncomputable def isComp:Expr→Bool
 | .ListComp _ _ _ _=>true
 | .SetComp _ _ _ _=>true
 | .DictComp _ _ _ _ _=>true
 | _=>false
theorem swaps_no {e:Expr}{t:Option Expr}{n:Nat}{env:Env} (h:isComp e=false):swapsWith e t n env=pure false:=by
 cases e <;> first | rfl | cases h
noncomputable def compBad:Expr→Expr→Bool
 | .Name _ _,.ListComp _ _ _ _=>false
 | .Tuple _ _ _,.ListComp _ _ _ _=>false
 | _,e=>isComp e
theorem s_compSet (h:XOk X sc ar cl k):∀ {n:Nat}{elt:Expr}{gens:List Comprehension}{scope:Scope}{pos pos' spos:Pos}{x:Str}{c:C}{i:Nat} (q:cE ar cl n sc (.ListComp elt gens scope pos)=some c) (hgo:PG X (.Name x pos') (gName i))
  (hsw:swapsWith (.ListComp elt gens scope pos) (some (.Name x pos')) spos.line X.env=pure true),PS X (.Assign [.Name x pos'] (.ListComp elt gens scope pos) spos) (tAsg (tOf X.K c) (gName i))
 | 0,_,_,_,_,_,_,_,_,_,q,_,_=>by cases q
 | n+1,elt,gens,scope,pos,pos',spos,x,c,i,q,hgo,hsw=>by
  obtain ⟨ihE,ihT⟩:=s_all (ar:=ar) (cl:=cl) (k:=k) n
  cases gens with
  | nil=>cases q
  | cons g gs =>
   obtain ⟨tg,iter,ifs,ia⟩:=g
   cases gs with
   | cons _ _=>cases q
   | nil =>
    change (if ia=0 then cCompr sc (cIter sc ar (cE ar cl n sc) tg iter) (cE ar cl n) (cT ar cl n) tg elt ifs scope else none)=some c at q
    split at q
    ·rename_i hz
     subst hz
     exact s_comprU h hgo hsw q (fun ci e=>s_iter h (ihE X sc h) e) (fun X' sc' h'=>ihE X' sc' h') (fun X' sc' h'=>ihT X' sc' h')
    ·cases q
theorem swaps_comp {elt:Expr}{gens:List Comprehension}{scope:Scope}{pos pos':Pos}{x:Str}{line:Nat}{env:Env}:∃ b:Bool,swapsWith (.ListComp elt gens scope pos) (some (.Name x pos')) line env=pure b:=⟨_,rfl⟩
inductive CB (tg e:Expr):Prop
 | no (h:∀ n env,swapsWith e (some tg) n env=pure false)
 | yes (x:Str) (pos':Pos) (elt:Expr) (gens:List Comprehension) (scope:Scope) (pos:Pos) (h1:tg=.Name x pos') (h2:e=.ListComp elt gens scope pos)
theorem CB.of {tg e:Expr} (h:isComp e=false):CB tg e:=.no fun _ _=>swaps_no h
theorem compBad_or {tg e:Expr} (h:compBad tg e=false):CB tg e:=by
 cases tg with
 | Name x pos' =>
  cases e with
  | ListComp elt gens scope pos=>exact .yes x pos' elt gens scope pos rfl rfl
  | _=>exact .of h
 | Tuple es k pos =>
  cases e with
  | ListComp elt gens scope pos=>exact .no fun _ _=>rfl
  | _=>exact .of h
 | _=>exact .of h
noncomputable def isLst:Expr→Bool
 | .List _ _=>true
 | _=>false
theorem swapped_no {tg e:Expr}{env:Env} (h:(isTuple tg&&isTuple e)=false) (hl:isLst tg=false):swappedStores [tg] e env=pure none:=by
 cases tg with
 | Tuple es n pos=>cases e <;> first | rfl | cases h
 | List es pos=>cases hl
 | _=>rfl
noncomputable def tupCell (sc:Sc):Expr→Bool
 | .Tuple [.Name x _,.Name y _] _ _=>sc.names.lookup x == some .cell||sc.names.lookup y == some .cell
 | _=>false
theorem tupCell_inv {tg:Expr} (h:tupCell sc tg=true):∃ x px y py k pos,tg=.Tuple [.Name x px,.Name y py] k pos∧(sc.names.lookup x=some .cell∨sc.names.lookup y=some .cell):=by
 unfold tupCell at h
 split at h
 ·rename_i x px y py k pos
  simp only [Bool.or_eq_true,beq_iff_eq] at h
  exact ⟨x,px,y,py,k,pos,rfl,h⟩
 ·cases h
theorem swapped_cell {x y:Str}{px py pos pos2:Pos}{k k2:Nat}{vs:List Expr}{env:Env} (h:env.scope.names.lookup x=some .cell∨env.scope.names.lookup y=some .cell):swappedStores [.Tuple [.Name x px,.Name y py] k pos] (.Tuple vs k2 pos2) env=pure none:=by
 have hn:(([Expr.Name x px,Expr.Name y py].filterMap fun e=>match e with
  | .Name id p=>if (env.kindOf id == some NameKind.local&&p.line == (([Expr.Name x px,Expr.Name y py].head?.map (·.pos.line)).getD 0))=true then some id else none
  | _=>none).length != 2)=true:=by
  have kx:env.kindOf x=env.scope.names.lookup x:=rfl
  have ky:env.kindOf y=env.scope.names.lookup y:=rfl
  have hc:(some NameKind.cell == some NameKind.local)=false:=by decide
  rcases h with h | h
  ·simp only [List.filterMap_cons,List.filterMap_nil,kx,h,hc,Bool.false_and,Bool.false_eq_true,if_false]
   split <;> rfl
  ·simp only [List.filterMap_cons,List.filterMap_nil,ky,h,hc,Bool.false_and,Bool.false_eq_true,if_false]
   split <;> rfl
 unfold swappedStores
 simp only [pure_bind]
 split
 ·rfl
 ·split
  ·rfl
  ·rw [if_pos]
   show (_||_)=true
   rw [Bool.or_eq_true]
   exact .inl hn
theorem swapped_no2 (h:XOk X sc ar cl k) {tg e:Expr} (c2:(isTuple tg&&isTuple e&&!tupCell sc tg)=false) (c3:isLst tg=false):swappedStores [tg] e X.env=pure none:=by
 cases hc:tupCell sc tg with
 | false =>
  rw [hc] at c2
  exact swapped_no (by simpa using c2) c3
 | true =>
  obtain ⟨x,px,y,py,kk,pos,rfl,hxy⟩:=tupCell_inv hc
  cases he:isTuple e with
  | false=>exact swapped_no (by rw [he]; rfl) c3
  | true =>
   obtain ⟨vs,k2,pt2,rfl⟩:=is_tup he
   exact swapped_cell (hxy.imp (h.cel x) (h.cel y))
noncomputable def parIn (sc:Sc) (t v:Expr × Expr) (n:Str × Str):Option (Nat × Nat × Expr × Expr) :=
 if n.1≠n.2∧sc.names.lookup n.1=some .local∧sc.names.lookup n.2=some .local∧t.1.pos.line=t.2.pos.line∧notStar v.1=true∧notStar v.2=true∧([v.1,v.2].all (foldedForSure 8))=false∧([v.1,v.2].all (constantsAlone 8))=false then
  (slotOf sc.N n.1 0).bind fun i=>(slotOf sc.N n.2 0).map fun j=>(i,j,v.1,v.2)
 else none
noncomputable def wfuel:Nat:=100000
section
variable (ar:Str→Option Nat) (cl:Str→List D→M D)
mutual
noncomputable def cSt:Nat→Sc→Stmt→Option CS
 | 0,_,_=>none
 | n+1,sc,s=>match s with
  | .Return v _=>match v with
   | none=>some sRetN
   | some e=>(cE ar cl n sc e).map fun c=>sRet c
  | .Expr e _=>if isComp e then none else (cE ar cl n sc e).map fun c=>sExpr c
  | .Assign tgs e _=>match tgs with
   | [tg] =>
    if compBad tg e||(isTuple tg&&isTuple e&&!tupCell sc tg)||isLst tg||!notStar tg then none else (cE ar cl n sc e).bind fun c=>(cG ar cl n sc tg).map fun g=>sAsg c g
   | _=>none
  | .If t a b _=>(cT ar cl n sc t).bind fun ct=>(cSts n sc a).bind fun ca=>(cSts n sc b).map fun cb=>sIf ct ca cb
  | .For tg it body els _=>match els with
   | []=>(cIter sc ar (cE ar cl n sc) tg it).bind fun ci=>(cG ar cl n sc tg).bind fun g=>(cSts n sc body).map fun cb=>sFor ci g cb
   | _::_=>none
  | .While t body els _=>match els with
   | []=>(cT ar cl n sc t).bind fun ct=>(cSts n sc body).map fun cb=>whileS wfuel ct cb
   | _::_=>none
  | .Pass _=>some sPass
  | .Break _=>some sBrk
  | .Continue _=>some sCnt
  | .Raise _ _ _=>some sBad
  | _=>none
noncomputable def cSts:Nat→Sc→List Stmt→Option CS
 | 0,_,_=>none
 | n+1,sc,ss=>match ss with
  | []=>some sPass
  | s::r=>(cSt n sc s).bind fun c=>(cSts n sc r).map fun d=>sSeq c d
end
end
inductive ParE (sc:Sc) (tg e:Expr) (r:Nat × Nat × Expr × Expr):Prop
 | mk (x y:Str) (px py pt pt2:Pos) (kt k2:Nat) (v1 v2:Expr) (h1:tg=.Tuple [.Name x px,.Name y py] kt pt) (h2:e=.Tuple [v1,v2] k2 pt2) (hp:parIn sc (.Name x px,.Name y py) (v1,v2) (x,y)=some r)
theorem pass_no (h:XOk X sc ar cl k):PassesOwn (model X.prog X.w) X.A X.env X.xe:=by rw [h.xe]; exact PassesOwn.never
theorem s_St:∀ n:Nat,(∀ X sc,XOk X sc ar cl k→∀ s c,cSt ar cl n sc s=some c→PS X s (tOfS X c))∧(∀ X sc,XOk X sc ar cl k→∀ s c,cSts ar cl n sc s=some c→PSs X s (tOfS X c))
 | 0=>⟨fun X sc h e c q=>(by cases q),fun X sc h e c q=>(by cases q)⟩
 | n+1=>by
  obtain ⟨ih,ihs⟩:=s_St n
  refine ⟨fun X sc h s c q=>?_,fun X sc h ss c q=>?_⟩
  ·have hf:=(s_all (ar:=ar) (cl:=cl) (k:=k) n).1 X sc h
   have ht:=(s_all (ar:=ar) (cl:=cl) (k:=k) n).2 X sc h
   have hg:=(s_G (ar:=ar) (cl:=cl) (k:=k) n).1 X sc h
   cases s with
   | Return v pos =>
    cases v with
    | none=>cases q; exact ss_retN
    | some e =>
     obtain ⟨ce,e1,q1⟩:=Option.map_eq_some_iff.mp q
     subst q1
     exact ss_ret (hf _ _ e1)
   | Expr e pos =>
    change (if isComp e=true then none else (cE ar cl n sc e).map fun c=>sExpr c)=some c at q
    split at q
    ·cases q
    ·rename_i hc
     obtain ⟨ce,e1,q1⟩:=Option.map_eq_some_iff.mp q
     subst q1
     exact ss_expr (hf _ _ e1) (swaps_no (by simpa using hc))
   | Assign tgs e pos =>
    cases tgs with
    | nil=>cases q
    | cons tg r =>
     cases r with
     | cons _ _=>cases q
     | nil =>
      change (if compBad tg e||(isTuple tg&&isTuple e&&!tupCell sc tg)||isLst tg||!notStar tg then none else (cE ar cl n sc e).bind fun c=>(cG ar cl n sc tg).map fun g=>sAsg c g)=some c at q
      split at q
      ·cases q
      ·rename_i hc
       simp only [Bool.or_eq_true,not_or,Bool.not_eq_true,Bool.not_eq_true',Bool.not_eq_false] at hc
       obtain ⟨⟨⟨c1,c2⟩,c3⟩,c4⟩:=hc
       obtain ⟨ce,e1,q1⟩:=Option.bind_eq_some_iff.mp q
       obtain ⟨g,e2,q2⟩:=Option.map_eq_some_iff.mp q1
       subst q2
       rcases compBad_or c1 with c1 | ⟨x,px,elt,gens,scope,pc,rfl,rfl⟩
       ·refine ss_asg (hf _ _ e1) (hg _ _ e2) (c1 _ _) (swapped_no2 h c2 c3) ?_
        rw [assignEach_cons (by simpa using c4)]; rfl
       ·obtain ⟨b,hb⟩:=swaps_comp (elt:=elt) (gens:=gens) (scope:=scope) (pos:=pc) (pos':=px) (x:=x) (line:=pos.line) (env:=X.env)
        cases b with
        | false=>exact ss_asg (hf _ _ e1) (hg _ _ e2) hb (swapped_no2 h c2 c3) (by rw [assignEach_cons (by simpa using c4)]; rfl)
        | true =>
         cases n with
         | zero=>cases e2
         | succ n =>
          obtain ⟨i,rfl,h1,h2,h3⟩:=s_tg h e2
          exact ss_set (s_compSet h e1 (pg_name h.nd' h1 h2 h3) hb)
   | If t a b pos =>
    obtain ⟨ct,e0,q1⟩:=Option.bind_eq_some_iff.mp q
    obtain ⟨ca,e1,q2⟩:=Option.bind_eq_some_iff.mp q1
    obtain ⟨cb,e2,q3⟩:=Option.map_eq_some_iff.mp q2
    subst q3
    exact ss_if (ht _ _ e0) (ihs X sc h _ _ e1) (ihs X sc h _ _ e2)
   | For tg it body els pos =>
    cases els with
    | cons _ _=>cases q
    | nil =>
     obtain ⟨ci,e0,q1⟩:=Option.bind_eq_some_iff.mp q
     obtain ⟨g,e1,q2⟩:=Option.bind_eq_some_iff.mp q1
     obtain ⟨cb,e2,q3⟩:=Option.map_eq_some_iff.mp q2
     subst q3
     obtain ⟨i1,i2⟩:=s_iter h hf e0
     exact ss_for (pass_no h) h.calm i1 (hg _ _ e1) (ihs X sc h _ _ e2) (folded_ok i2)
   | While t body els pos =>
    cases els with
    | cons _ _=>cases q
    | nil =>
     obtain ⟨ct,e0,q1⟩:=Option.bind_eq_some_iff.mp q
     obtain ⟨cb,e2,q3⟩:=Option.map_eq_some_iff.mp q1
     subst q3
     exact ss_while wfuel (pass_no h) (ht _ _ e0) (ihs X sc h _ _ e2)
   | Pass pos=>cases q; exact ss_pass
   | Break pos=>cases q; exact ss_brk
   | Continue pos=>cases q; exact ss_cnt
   | Raise a b pos=>cases q; exact ss_bad
   | _=>cases q
  ·cases ss with
   | nil=>cases q; exact sss_nil
   | cons s r =>
    obtain ⟨c1,e1,q1⟩:=Option.bind_eq_some_iff.mp q
    obtain ⟨c2,e2,q2⟩:=Option.map_eq_some_iff.mp q1
    subst q2
    exact sss_cons (ih X sc h _ _ e1) (ihs X sc h _ _ e2)
noncomputable def startE (n:Nat) (ds:List D):Env1:=ds.map some++List.replicate (n - ds.length) none
noncomputable def runF (np nN:Nat) (b:CS):List D→M D:=fun ds S=>if ds.length=np then (match b (startE nN ds) S with
 | .nx _ S'=>.ok .non S'
 | .rt d S'=>.ok d S'
 | .er c S'=>.er c S'
 | _=>.bad) else .bad
theorem RVs.begins {K:W.Frag}{H:Hp}{μ:List Addr}{N:List Str}{ds:List D}{vs:List V} (r:RVs K H μ ds vs):RE K H μ (startE N.length ds) (start N vs):=by
 unfold startE start
 refine ⟨by simp [r.len],fun i d e=>?_⟩
 by_cases hi:i<ds.length
 ·rw [List.getElem?_append_left (by simpa using hi),List.getElem?_map] at e
  rw [List.getElem?_append_left (by rw [List.length_map,← r.len]; exact hi),List.getElem?_map]
  cases q:ds[i]? with
  | none=>rw [q] at e; cases e
  | some d' =>
   rw [q] at e; cases e
   obtain ⟨v,e1,e2⟩:=r.get q
   exact ⟨v,by rw [e1]; rfl,e2⟩
 ·rw [List.getElem?_append_right (by simpa using hi),List.getElem?_replicate] at e
  split at e <;> cases e
noncomputable def fnOk (N ps:List Str) (scope:Scope):Bool :=
 decide (scope.kind=.function)&&!scope.isCoroutine&&!scope.isGenerator&&decide N.Nodup&&decide (N.take ps.length=ps)&&ps.all (fun x=>scope.names.lookup x == some .local||scope.names.lookup x == some .cell)&&scope.names.all (fun y=>y.2 != .free)
theorem fnOk_scope {N ps:List Str}{scope:Scope} (h:fnOk N ps scope=true):FnScope N ps scope:=by
 unfold fnOk at h
 simp only [Bool.and_eq_true,decide_eq_true_eq,Bool.not_eq_true'] at h
 obtain ⟨⟨⟨⟨⟨⟨c1,c2⟩,c3⟩,c4⟩,c5⟩,c6⟩,c7⟩:=h
 refine ⟨c1,c2,c3,c4,c5,fun x hx=>?_,fun y hy=>?_⟩
 ·have:=List.all_eq_true.mp c6 x hx
  simpa using this
 ·have:=List.all_eq_true.mp c7 y hy
  simpa using this
noncomputable def bltL:List Str:=["len","range","list","tuple","min","max","zip","isinstance","all","any","int","bool","enumerate","str","sorted","dict","sum","repr","set","abs"]
theorem s_fn {P:Program}{w:World}{K:W.Frag}{mg:Str→Option Value}{base:Heap}{x:Str}{st:Stmt}{fa:Addr}{fd:FuncData}{N ps:List Str}{fuel:Nat}{b:CS} (F:Fun K x x st fa fd)
  (hs:fnOk N ps (defScope st)=true) (hc:cSts ar cl fuel ⟨N,(defScope st).names,some x⟩ (defBody st)=some b)
  (hB:∀ y:Str,y∈bltL→ar y=none→mg y=none)
  (ih:∀ y n,ar y=some n→(∃ ps,Callee P w K mg base y ps k (spOf K (cl y) n))∧∀ ds S d S',cl y ds S=.ok d S'→ds.length=n):FnOk P w K mg base CX0 (k+1) fa fd ps (spOf K (runF ps.length N.length b) ps.length):=by
 have S:=fnOk_scope hs
 refine F.ok (k:=k) S (fun vs H Q E h=>h.1) (fun cdv A outer s H vs Q E hr h=>?_)
 obtain ⟨hl,μ,ds,S0,d,S',sr,rv,e,y⟩:=h
 have hX:XOk (cxOf CX0 P w K mg base N x (defScope st) fa cdv A outer s H E).nox ⟨N,(defScope st).names,some x⟩ ar cl k:={
  calm:=rfl
  N:=rfl
  nd:=S.nd
  gl:=fun x hx=>hx
  loc:=fun x hx=>hx
  cel:=fun x hx=>hx
  fre:=fun x hx=>.inr hx
  fnn:=fun _ x=>rfl
  room:=hr
  xe:=rfl
  blt:=hB
  fns:=ih }
 refine ⟨_,(s_St fuel).2 _ _ hX _ _ hc,μ,startE N.length ds,S0,sr,rv.begins,?_⟩
 unfold runF at e
 split at e
 ·split at e
  ·rename_i ρ S2 he
   cases e
   rw [he]
   exact fun σ' H' μ' sr' st' re'=>y _ H' μ' sr' st' rv_non
  ·rename_i d' S2 he
   cases e
   rw [he]
   exact y
  ·cases e
  ·cases e
 ·cases e
theorem s_def {P:Program}{w:World}{K:W.Frag}{mg:Str→Option Value}{base:Heap}{x:Str}{st:Stmt}{fa:Addr}{fd:FuncData}{N ps:List Str}{fuel:Nat}{b:CS} (F:Fun K x x st fa fd) (m:mg x=some (.ref fa)) (hb:Binds K fd ps [])
  (hs:fnOk N ps (defScope st)=true) (hc:cSts ar cl fuel ⟨N,(defScope st).names,some x⟩ (defBody st)=some b)
  (hB:∀ y:Str,y∈bltL→ar y=none→mg y=none)
  (ih:∀ y n,ar y=some n→(∃ ps,Callee P w K mg base y ps k (spOf K (cl y) n))∧∀ ds S d S',cl y ds S=.ok d S'→ds.length=n):Callee P w K mg base x ps (k+1) (spOf K (runF ps.length N.length b) ps.length) :=
 ⟨fa,fd,s_fn F hs hc hB ih,hb,F.kp,m⟩
end
open PySem PySem.Spec PyProof.Rows
noncomputable abbrev CLL:=Str→List D→M D
noncomputable abbrev Tbl:=List (Str × (Nat × Nat × (CLL→CS)))
noncomputable def arT (tbl:Tbl) (x:Str):Option Nat:=(tbl.lookup x).map (·.1)
noncomputable def callT (tbl:Tbl):Nat→CLL
 | 0,_=>fun _ _=>.bad
 | n+1,x=>match tbl.lookup x with
  | some p=>runF p.1 p.2.1 (p.2.2 (callT tbl n))
  | none=>fun _ _=>.bad
structure DefIn (K:W.Frag) (mg:Str→Option Value) (ar:Str→Option Nat) (x:Str) (p:Nat × Nat × (CLL→CS)):Prop where
 ex:∃ (st:Stmt) (fa:Addr) (fd:FuncData) (N ps:List Str) (fuel:Nat),Fun K x x st fa fd∧mg x=some (.ref fa)∧Binds K fd ps []∧fnOk N ps (defScope st)=true∧ps.length=p.1∧N.length=p.2.1 ∧
  ∀ cl:CLL,cSts ar cl fuel ⟨N,(defScope st).names,some x⟩ (defBody st)=some (p.2.2 cl)
theorem runF_len {np nN:Nat}{b:CS}{ds:List D}{S S':Store}{d:D} (h:runF np nN b ds S=.ok d S'):ds.length=np:=by
 unfold runF at h
 split at h
 ·assumption
 ·cases h
theorem lookup_mem {α:Type}{tbl:List (Str × α)}{x:Str}{p:α} (h:tbl.lookup x=some p):(x,p)∈tbl:=by
 induction tbl with
 | nil=>cases h
 | cons y r ih =>
  obtain ⟨y1,y2⟩:=y
  rw [List.lookup_cons] at h
  split at h
  ·rename_i e
   cases h
   have:x=y1:=by simpa using e
   subst this
   simp
  ·exact List.mem_cons_of_mem _ (ih h)
theorem tbl_ok {P:Program}{w:World}{K:W.Frag}{mg:Str→Option Value}{base:Heap}{tbl:Tbl} (hd:∀ x p,tbl.lookup x=some p→DefIn K mg (arT tbl) x p) (hB:∀ y:Str,y∈bltL→arT tbl y=none→mg y=none) :
  ∀ (k:Nat) (x:Str) (n:Nat),arT tbl x=some n→(∃ ps,Callee P w K mg base x ps k (spOf K (callT tbl k x) n))∧∀ ds S d S',callT tbl k x ds S=.ok d S'→ds.length=n
 | 0,x,n,h=>by
  obtain ⟨p,hp,rfl⟩:=Option.map_eq_some_iff.mp h
  obtain ⟨st,fa,fd,N,ps,fuel,F,m,hb,_⟩:=(hd x p hp).ex
  have no:∀ ds S d S',callT tbl 0 x ds S=.ok d S'→False:=fun ds S d S' e=>by unfold callT at e; cases e
  refine ⟨⟨ps,fa,fd,⟨fun vs H Q E h=>?_,fun A outer s H args us vs Q E _ _ _ _ h=>?_⟩,hb,F.kp,m⟩,fun ds S d S' e=>(no _ _ _ _ e).elim⟩
  ·obtain ⟨_,μ,ds,S,d,S',_,_,e,_⟩:=h; exact (no _ _ _ _ e).elim
  ·obtain ⟨_,μ,ds,S,d,S',_,_,e,_⟩:=h; exact (no _ _ _ _ e).elim
 | k+1,x,n,h=>by
  obtain ⟨p,hp,rfl⟩:=Option.map_eq_some_iff.mp h
  obtain ⟨st,fa,fd,N,ps,fuel,F,m,hb,hs,e1,e2,hc⟩:=(hd x p hp).ex
  have ih:=tbl_ok (P:=P) (w:=w) (base:=base) hd hB k
  have q:=s_def (P:=P) (w:=w) (base:=base) (k:=k) F m hb hs (hc (callT tbl k)) hB ih
  have e3:callT tbl (k+1) x=runF p.1 p.2.1 (p.2.2 (callT tbl k)):=by
   show (match tbl.lookup x with | some p=>runF p.1 p.2.1 (p.2.2 (callT tbl k)) | none=>fun _ _=>.bad)=_
   rw [hp]
  rw [e1,e2] at q
  rw [e3]
  exact ⟨⟨ps,q⟩,fun ds S d S' e=>runF_len e⟩
noncomputable def spL (K:W.Frag):Sp:=fun vs H Q _=>∃ (a:Addr) (ns:List Int),vs=[.ref a]∧SqF K H a (ns.map V.int)∧ns.length≤63∧∀ H',Q (.bl true) H'
theorem sqF_of {K:W.Frag}{H:Hp}{a:Addr}{xs:List V} (o:Only H) (h:SqL K H a xs):SqF K H a xs:=by
 rcases h with (h | ⟨w,h⟩) | h
 ·rcases o a with q | ⟨w,ys,q⟩
  ·rw [h] at q; cases q
  ·rw [h] at q; cases q
 ·exact .inl ⟨w,h⟩
 ·exact .inr h
theorem law_ok {P:Program}{w:World}{K:W.Frag}{mg:Str→Option Value}{base:Heap}{tbl:Tbl}{fa:Addr}{fd:FuncData}{st:Stmt}{L nN fuel:Nat}{N:List Str}{b:CLL→CS} (hd:∀ x p,tbl.lookup x=some p→DefIn K mg (arT tbl) x p) (hB:∀ y:Str,y∈bltL→arT tbl y=none→mg y=none)
  (hl:tbl.lookup ("law":Str)=some (1,nN,b)) (F:Fun K "law" "law" st fa fd) (hs:fnOk N ["_law_script"] (defScope st)=true) (hN:N.length=nN) (hc:∀ cl:CLL,cSts (arT tbl) cl fuel ⟨N,(defScope st).names,some "law"⟩ (defBody st)=some (b cl))
  (hlaw:∀ ns:List Int,ns.length≤63→∃ S',callT tbl (L+1) "law" [.rol (ns.map D.int)] []=.ok (.bl true) S') :
  FnOk P w K mg base CX0 (L+1) fa fd ["_law_script"] (spL K):=by
 have q:=s_fn (P:=P) (w:=w) (base:=base) (k:=L) F hs (hc (callT tbl L)) hB (tbl_ok (P:=P) (w:=w) (base:=base) hd hB L)
 refine q.imp fun vs H Q E h=>?_
 obtain ⟨a,ns,rfl,hS,hn,hQ⟩:=h
 obtain ⟨S',e⟩:=hlaw ns hn
 have e3:callT tbl (L+1) "law"=runF 1 nN (b (callT tbl L)):=by
  show (match tbl.lookup ("law":Str) with | some p=>runF p.1 p.2.1 (p.2.2 (callT tbl L)) | none=>fun _ _=>.bad)=_
  rw [hl]
 rw [e3] at e
 refine ⟨rfl,[],[.rol (ns.map D.int)],[],.bl true,S',⟨rfl,List.nodup_nil,fun n a o h=>by simp at h⟩,.cons (by unfold RV; exact ⟨a,_,rfl,hS,RVs.ints⟩) .nil,by rw [hN]; exact e,fun v H' μ' _ _ r=>?_⟩
 unfold RV at r
 subst r
 exact hQ H'
theorem walk_ev {l:W.OpenLaw}{q:Program}{loose:List Str}{XP:(Str→Option Value)→Heap→Prop}{YP:World→Heap→Prop}{d:DefRec}{K:Params→W.Frag}{L:Nat} (hn:l.most=some 63) (hdf:d.params.defaults=[]) (hr:Room L callerA)
  (hY:∀ (w:World) (h:Heap),YP w h→(K w.params).In h)
  (F:∀ (w:World) (mg:Str→Option Value) (fa:Addr) (h:Heap),(K w.params).In h→h.Ns mainGlobals mg→mg d.name=some (.ref fa) →
   ∃ fd:FuncData,(∀ (s:Shared) (u:Value),BindsTo s fd ⟨[u],[]⟩ [("_law_script",u)])∧∀ base:Heap,(K w.params).In base→base.Ns mainGlobals mg→FnOk l.prog w (K w.params) mg base CX0 L fa fd ["_law_script"] (spL (K w.params))) :
  W.WalkO q loose XP YP l.row.toRowW d [] (fun f vs=>PySem.call f vs) :=
 L2.walk_of (n:=63) (k:=L) (x := "_law_script") (CX:=fun _=>CX0) (sp:=fun w=>spL (K w.params)) hn (by decide) hdf hr hY F (fun _ _ a ns hl o hS=>⟨a,ns,rfl,sqF_of o hS,hl,fun _=>rfl⟩) fun _ _ _ _ _ z=>z
open PySem
noncomputable def AllIn (K:W.Frag) (mg:Str→Option Value) (ar:Str→Option Nat):Tbl→Prop
 | []=>True
 | e::r=>DefIn K mg ar e.1 e.2∧AllIn K mg ar r
theorem AllIn.mem {K:W.Frag}{mg:Str→Option Value}{ar:Str→Option Nat}:∀ {t:Tbl},AllIn K mg ar t→∀ x p,(x,p)∈t→DefIn K mg ar x p
 | [],_,x,p,h=>by cases h
 | e::r,⟨a,b⟩,x,p,h=>by
  rcases List.mem_cons.mp h with q | q
  ·subst q; exact a
  ·exact b.mem x p q
theorem AllIn.look {K:W.Frag}{mg:Str→Option Value}{ar:Str→Option Nat}{t:Tbl} (h:AllIn K mg ar t) (x:Str) (p:Nat × Nat × (CLL→CS)) (e:t.lookup x=some p):DefIn K mg ar x p:=h.mem x p (lookup_mem e)
theorem def_in {K:W.Frag}{mg:Str→Option Value}{ar:Str→Option Nat}{x:Str}{st:Stmt}{fa:Addr}{fd:FuncData}{N ps:List Str}{fuel np nN:Nat}{b:CLL→CS} (F:Fun K x x st fa fd) (m:mg x=some (.ref fa)) (hb:Binds K fd ps []) (hs:fnOk N ps (defScope st)=true)
  (hc:(fun cl:CLL=>cSts ar cl fuel ⟨N,(defScope st).names,some x⟩ (defBody st))=fun cl=>some (b cl)) (h1:ps.length=np:=by rfl) (h2:N.length=nN:=by rfl):DefIn K mg ar x (np,nN,b) :=
 ⟨st,fa,fd,N,ps,fuel,F,m,hb,hs,h1,h2,fun cl=>congrFun hc cl⟩
noncomputable def AllNone (mg:Str→Option Value):List Str→Prop
 | []=>True
 | x::r=>mg x=none∧AllNone mg r
theorem AllNone.mem {mg:Str→Option Value}:∀ {l:List Str},AllNone mg l→∀ x∈l,mg x=none
 | [],_,x,h=>by cases h
 | e::r,⟨a,b⟩,x,h=>by
  rcases List.mem_cons.mp h with q | q
  ·subst q; exact a
  ·exact b.mem x q
open PySem
inductive Tg {γ:Type} (f:γ):Type where
 | mk
noncomputable def rbnd {α β:Type} (r:R α) (f:α→Store→R β) (_:Tg f):R β:=match r with
 | .bad=>.bad
 | .er c S=>.er c S
 | .ok a S=>f a S
@[simp] theorem rbnd_ok {α β:Type} (a:α) (S:Store) (f:α→Store→R β):rbnd (.ok a S) f .mk=f a S:=rfl
@[simp] theorem rbnd_bad {α β:Type} (f:α→Store→R β):rbnd .bad f .mk=.bad:=rfl
@[simp] theorem bnd_ev {α β:Type} (m:M α) (f:α→M β) (S:Store):bnd m f S=rbnd (m S) f .mk:=rfl
@[simp] theorem ret_ev {α:Type} (a:α) (S:Store):ret a S=.ok a S:=rfl
@[simp] theorem bad_ev {α:Type} (S:Store):(bad:M α) S=.bad:=rfl
noncomputable def rs {α:Type} (r:R α) (f:α→Store→RS) (_:Tg f):RS:=match r with
 | .bad=>.bad
 | .er _ _=>.bad
 | .ok a S=>f a S
@[simp] theorem rs_ok {α:Type} (a:α) (S:Store) (f:α→Store→RS):rs (.ok a S) f .mk=f a S:=rfl
@[simp] theorem rs_bad {α:Type} (f:α→Store→RS):rs .bad f .mk=.bad:=rfl
noncomputable def sb (r:RS) (f:CS) (_:Tg f):RS:=match r with
 | .nx ρ S=>f ρ S
 | r=>r
@[simp] theorem sb_nx (ρ:Env1) (S:Store) (f:CS):sb (.nx ρ S) f .mk=f ρ S:=rfl
@[simp] theorem sb_rt (d:D) (S:Store) (f:CS):sb (.rt d S) f .mk=.rt d S:=rfl
@[simp] theorem sb_bk (ρ:Env1) (S:Store) (f:CS):sb (.bk ρ S) f .mk=.bk ρ S:=rfl
@[simp] theorem sb_ct (ρ:Env1) (S:Store) (f:CS):sb (.ct ρ S) f .mk=.ct ρ S:=rfl
@[simp] theorem sSeq_ev (a b:CS) (ρ:Env1) (S:Store):sSeq a b ρ S=sb (a ρ S) b .mk:=by
 unfold sSeq sb; cases a ρ S <;> rfl
@[simp] theorem sPass_ev (ρ:Env1) (S:Store):sPass ρ S=.nx ρ S:=rfl
@[simp] theorem sBrk_ev (ρ:Env1) (S:Store):sBrk ρ S=.bk ρ S:=rfl
@[simp] theorem sCnt_ev (ρ:Env1) (S:Store):sCnt ρ S=.ct ρ S:=rfl
@[simp] theorem sRetN_ev (ρ:Env1) (S:Store):sRetN ρ S=.rt .non S:=rfl
@[simp] theorem sRet_ev (c:C) (ρ:Env1) (S:Store):sRet c ρ S=rs (c ρ S) (fun d S'=>.rt d S') .mk:=by
 unfold sRet rs; cases c ρ S <;> rfl
@[simp] theorem sExpr_ev (c:C) (ρ:Env1) (S:Store):sExpr c ρ S=rs (c ρ S) (fun _ S'=>.nx ρ S') .mk:=by
 unfold sExpr rs; cases c ρ S <;> rfl
@[simp] theorem sAsg_ev (c:C) (g:G) (ρ:Env1) (S:Store):sAsg c g ρ S=rs (c ρ S) (fun d S1=>rs (g d ρ S1) (fun ρ' S2=>.nx ρ' S2) .mk) .mk:=by
 unfold sAsg rs
 cases c ρ S with
 | ok d S1=>dsimp only; cases g d ρ S1 <;> rfl
 | _=>rfl
@[simp] theorem sIf_ev (t:CT) (a b:CS) (ρ:Env1) (S:Store):sIf t a b ρ S=rs (t ρ S) (fun k S'=>if k then a ρ S' else b ρ S') .mk:=by
 unfold sIf rs; cases t ρ S <;> rfl
@[simp] theorem sFor_ev (it:CI) (g:G) (b:CS) (ρ:Env1) (S:Store):sFor it g b ρ S=rs (it ρ S) (fun p S1=>loopS p.2 g b p.1 ρ S1) .mk:=by
 unfold sFor rs
 cases it ρ S with
 | ok p S1=>obtain ⟨a,b⟩:=p; rfl
 | _=>rfl
@[simp] theorem gN_ev (i:Nat) (d:D) (ρ:Env1) (S:Store):gN i d ρ S=.ok (ρ.set i (some d)) S:=rfl
noncomputable def mo {α:Type} (o:Option α) (S':α→Store) (ρ:Env1):R Env1:=match o with
 | some x=>.ok ρ (S' x)
 | none=>.bad
@[simp] theorem gS_ev (co ci:C) (d:D) (ρ:Env1) (S:Store):gS co ci d ρ S=rbnd (co ρ S) (fun o S1=>rbnd (ci ρ S1) (fun i S2=>mo (oSet o i d S2) (fun x=>x) ρ) .mk) .mk:=by
 unfold gS
 rw [bnd_ev]
 cases co ρ S with
 | bad=>rfl
 | er _ _=>rfl
 | ok o S1 =>
  rw [rbnd_ok,rbnd_ok,bnd_ev]
  cases ci ρ S1 with
  | bad=>rfl
  | er _ _=>rfl
  | ok i S2 =>
   rw [rbnd_ok,rbnd_ok]
   cases h:oSet o i d S2 <;> rfl
@[simp] theorem mo_some {α:Type} (x:α) (f:α→Store) (ρ:Env1):mo (some x) f ρ=.ok ρ (f x):=rfl
@[simp] theorem gT_ev (gs:List G) (xs:List D) (ρ:Env1) (S:Store):gT gs (.tup xs) ρ S=gTs gs xs ρ S:=rfl
@[simp] theorem gTs_nil (ρ:Env1) (S:Store):gTs [] [] ρ S=.ok ρ S:=rfl
@[simp] theorem gTs_cons (g:G) (gs:List G) (x:D) (xs:List D) (ρ:Env1) (S:Store):gTs (g::gs) (x::xs) ρ S=rbnd (g x ρ S) (fun ρ1 S1=>gTs gs xs ρ1 S1) .mk:=rfl
@[simp] theorem cVar_ev (i:Nat) (ρ:Env1) (S:Store):cVar i ρ S=match ρ[i]? with | some (some d)=>.ok d S | _=>.bad:=rfl
@[simp] theorem cCon_ev (d:D) (ρ:Env1) (S:Store):cCon d ρ S=.ok d S:=rfl
@[simp] theorem cBin_ev (o:D→D→M D) (a b:C) (ρ:Env1) (S:Store):cBin o a b ρ S=rbnd (a ρ S) (fun x S1=>rbnd (b ρ S1) (fun y S2=>o x y S2) .mk) .mk:=rfl
@[simp] theorem cUn_ev (o:D→M D) (a:C) (ρ:Env1) (S:Store):cUn o a ρ S=rbnd (a ρ S) o .mk:=rfl
@[simp] theorem cArgs_nil (ρ:Env1) (S:Store):cArgs [] ρ S=.ok [] S:=rfl
@[simp] theorem cArgs_cons (c:C) (cs:List C) (ρ:Env1) (S:Store):cArgs (c::cs) ρ S=rbnd (c ρ S) (fun x S1=>rbnd (cArgs cs ρ S1) (fun xs S2=>.ok (x::xs) S2) .mk) .mk:=rfl
@[simp] theorem cApp_ev (o:List D→M D) (a:CA) (ρ:Env1) (S:Store):cApp o a ρ S=rbnd (a ρ S) o .mk:=rfl
@[simp] theorem cTup_ev (a:CA) (ρ:Env1) (S:Store):cTup a ρ S=rbnd (a ρ S) (fun xs S1=>.ok (.tup xs) S1) .mk:=rfl
@[simp] theorem cLst_ev (a:CA) (ρ:Env1) (S:Store):cLst a ρ S=rbnd (a ρ S) (fun xs S1=>.ok (.lst S1.length) (S1++[.lst xs])) .mk:=rfl
@[simp] theorem cIf_ev (t:CT) (a b:C) (ρ:Env1) (S:Store):cIf t a b ρ S=rbnd (t ρ S) (fun k S1=>if k then a ρ S1 else b ρ S1) .mk:=by
 unfold cIf; rw [bnd_ev]
 cases t ρ S with
 | ok k S1=>cases k <;> rfl
 | bad=>rfl
 | er _ _=>rfl
@[simp] theorem cBool_ev (a:C) (ρ:Env1) (S:Store):cBool a ρ S=rbnd (a ρ S) (fun x S1=>dB x S1) .mk:=rfl
@[simp] theorem dB_ev (b:Bool) (S:Store):dB (.bl b) S=.ok b S:=rfl
@[simp] theorem cAndV_ev (a b:C) (ρ:Env1) (S:Store):cAndV a b ρ S=rbnd (cBool a ρ S) (fun k S1=>if k then b ρ S1 else .ok (.bl false) S1) .mk:=by
 unfold cAndV; rw [bnd_ev]
 cases cBool a ρ S with
 | ok k S1=>cases k <;> rfl
 | bad=>rfl
 | er _ _=>rfl
@[simp] theorem cOrV_ev (a b:C) (ρ:Env1) (S:Store):cOrV a b ρ S=rbnd (cBool a ρ S) (fun k S1=>if k then .ok (.bl true) S1 else b ρ S1) .mk:=by
 unfold cOrV; rw [bnd_ev]
 cases cBool a ρ S with
 | ok k S1=>cases k <;> rfl
 | bad=>rfl
 | er _ _=>rfl
@[simp] theorem cNotV_ev (a:C) (ρ:Env1) (S:Store):cNotV a ρ S=rbnd (cBool a ρ S) (fun k S1=>.ok (.bl (!k)) S1) .mk:=rfl
@[simp] theorem cAndT_ev (a b:CT) (ρ:Env1) (S:Store):cAndT a b ρ S=rbnd (a ρ S) (fun k S1=>if k then b ρ S1 else .ok false S1) .mk:=by
 unfold cAndT; rw [bnd_ev]
 cases a ρ S with
 | ok k S1=>cases k <;> rfl
 | bad=>rfl
 | er _ _=>rfl
@[simp] theorem cOrT_ev (a b:CT) (ρ:Env1) (S:Store):cOrT a b ρ S=rbnd (a ρ S) (fun k S1=>if k then .ok true S1 else b ρ S1) .mk:=by
 unfold cOrT; rw [bnd_ev]
 cases a ρ S with
 | ok k S1=>cases k <;> rfl
 | bad=>rfl
 | er _ _=>rfl
@[simp] theorem cNotT_ev (a:CT) (ρ:Env1) (S:Store):cNotT a ρ S=rbnd (a ρ S) (fun k S1=>.ok (!k) S1) .mk:=rfl
@[simp] theorem cChain_ev (o o':D→D→M D) (a b c:C) (ρ:Env1) (S:Store):cChain o o' a b c ρ S=rbnd (a ρ S) (fun x S1=>rbnd (b ρ S1) (fun y S2=>rbnd (o x y S2) (fun z S3=>rbnd (dB z S3) (fun k S4=>if k then rbnd (c ρ S4) (fun w S5=>o' y w S5) .mk else .ok (.bl false) S4) .mk) .mk) .mk) .mk:=by
 unfold cChain
 rw [bnd_ev]
 cases a ρ S with
 | bad=>rfl
 | er _ _=>rfl
 | ok x S1 =>
  rw [rbnd_ok,rbnd_ok,bnd_ev]
  cases b ρ S1 with
  | bad=>rfl
  | er _ _=>rfl
  | ok y S2 =>
   rw [rbnd_ok,rbnd_ok,bnd_ev]
   cases o x y S2 with
   | bad=>rfl
   | er _ _=>rfl
   | ok z S3 =>
    rw [rbnd_ok,rbnd_ok,bnd_ev]
    cases dB z S3 with
    | bad=>rfl
    | er _ _=>rfl
    | ok k S4=>cases k <;> rfl
@[simp] theorem cTru_ev (a:C) (ρ:Env1) (S:Store):cTru a ρ S=rbnd (a ρ S) (fun x S1=>dTru x S1) .mk:=rfl
@[simp] theorem dTru_bl (b:Bool) (S:Store):dTru (.bl b) S=.ok b S:=rfl
@[simp] theorem dTru_int (i:Int) (S:Store):dTru (.int i) S=.ok (i != 0) S:=rfl
@[simp] theorem dTru_tup (xs:List D) (S:Store):dTru (.tup xs) S=.ok (!xs.isEmpty) S:=rfl
@[simp] theorem cNoPart_ev (ρ:Env1) (S:Store):cNoPart ρ S=.ok none S:=rfl
@[simp] theorem cPart_ev (a:C) (ρ:Env1) (S:Store):cPart a ρ S=rbnd (a ρ S) (fun x S1=>rbnd (dInt x S1) (fun i S2=>.ok (some i) S2) .mk) .mk:=rfl
@[simp] theorem dInt_ev (i:Int) (S:Store):dInt (.int i) S=.ok i S:=rfl
@[simp] theorem cSl_ev (o:D→Option Int→Option Int→M D) (a:C) (lo hi:CO) (ρ:Env1) (S:Store):cSl o a lo hi ρ S=rbnd (a ρ S) (fun x S1=>rbnd (lo ρ S1) (fun l S2=>rbnd (hi ρ S2) (fun h S3=>o x l h S3) .mk) .mk) .mk:=rfl
@[simp] theorem cMeth_ev (T:String) (o:D→List D→M D) (a:C) (as:CA) (ρ:Env1) (S:Store):cMeth T o a as ρ S=rbnd (a ρ S) (fun x S1=>if tyOk T x S1 then rbnd (as ρ S1) (fun xs S2=>o x xs S2) .mk else .bad) .mk:=rfl
@[simp] theorem cMeth0_ev (T:String) (o:D→List D→M D) (a:C) (ρ:Env1) (S:Store):cMeth0 T o a ρ S=rbnd (a ρ S) (fun x S1=>if tyOk T x S1 then o x [] S1 else .bad) .mk:=rfl
@[simp] theorem iSeq_ev (c:C) (ρ:Env1) (S:Store):iSeq c ρ S=rbnd (c ρ S) (fun x S1=>match x with
 | .tup xs=>.ok (xs,[]) S1
 | .lst n=>match lstAt S1 n with
  | some xs=>.ok (xs,[(n,xs)]) S1
  | none=>.bad
 | _=>.bad) .mk:=rfl
@[simp] theorem iRange1_ev (a:CA) (ρ:Env1) (S:Store):iRange1 a ρ S=rbnd (a ρ S) (fun xs S1=>match xs with
 | [.int j]=>if -4611686018427387904≤j∧j<4611686018427387904 then .ok (upD 0 j.toNat,[]) S1 else .bad
 | _=>.bad) .mk:=rfl
@[simp] theorem iRange2_ev (a:CA) (ρ:Env1) (S:Store):iRange2 a ρ S=rbnd (a ρ S) (fun xs S1=>match xs with
 | [.int i,.int j]=>if -4611686018427387904≤i∧i<4611686018427387904∧-4611686018427387904≤j∧j<4611686018427387904 then .ok (upD i (j - i).toNat,[]) S1 else .bad
 | _=>.bad) .mk:=rfl
@[simp] theorem iZipL_ev (a:CA) (ρ:Env1) (S:Store):iZipL a ρ S=rbnd (a ρ S) (fun xs S1=>match xs with
 | [x,y]=>match zsAt S1 x,zsAt S1 y with
  | some ys,some zs=>.ok (zipD ys zs,watchOf x ys++watchOf y zs) S1
  | _,_=>.bad
 | _=>.bad) .mk:=rfl
@[simp] theorem watchOf_lst (n:Nat) (xs:List D):watchOf (.lst n) xs=[(n,xs)]:=rfl
@[simp] theorem watchOf_tup (ys:List D) (xs:List D):watchOf (.tup ys) xs=[]:=rfl
@[simp] theorem zsAt_lst (S:Store) (n:Nat):zsAt S (.lst n)=lstAt S n:=rfl
@[simp] theorem zsAt_tup (S:Store) (xs:List D):zsAt S (.tup xs)=some xs:=rfl
@[simp] theorem iEnumT_ev (a:CA) (ρ:Env1) (S:Store):iEnumT a ρ S=rbnd (a ρ S) (fun xs S1=>match xs with
 | [.tup ys]=>.ok (enumD ys,[]) S1
 | [.lst n]=>match lstAt S1 n with
  | some ys=>.ok (enumD ys,[(n,ys)]) S1
  | none=>.bad
 | _=>.bad) .mk:=rfl
@[simp] theorem cComp_ev (it:CI) (k:Nat) (js:List Nat) (t:Tgt) (tc:CT) (c:C) (ρ:Env1) (S:Store):cComp it k js t tc c ρ S=rbnd (it ρ S) (fun p S1=>if p.1.length<lim then rbnd (loopC p.2 t tc c (stE k js ρ) p.1 S1) (fun ys S'=>.ok (.lst S'.length) (S'++[.lst ys])) .mk else .bad) .mk:=rfl
@[simp] theorem cDNew_ev (ρ:Env1) (S:Store):cDNew ρ S=.ok (.dct S.length) (S++[.dk []]):=rfl
@[simp] theorem cDOne_ev (a b:C) (ρ:Env1) (S:Store):cDOne a b ρ S=rbnd (a ρ S) (fun x S1=>rbnd (b ρ S1) (fun y S2=>match keyOf x with
 | some k=>.ok (.dct S2.length) (S2++[.dk [(k,y)]])
 | none=>.bad) .mk) .mk:=rfl
@[simp] theorem oAdd_int (i j:Int) (S:Store):oAdd (.int i) (.int j) S=.ok (.int (i+j)) S:=rfl
@[simp] theorem oAdd_tup (xs ys:List D) (S:Store):oAdd (.tup xs) (.tup ys) S=if xs.length+ys.length≤lim then .ok (.tup (xs++ys)) S else .bad:=rfl
@[simp] theorem oInt_ev (g:Int→Int→Int) (i j:Int) (S:Store):oInt g (.int i) (.int j) S=.ok (.int (g i j)) S:=rfl
@[simp] theorem oMul_int (i j:Int) (S:Store):oMul (.int i) (.int j) S=if mulOk i j then .ok (.int (i*j)) S else .bad:=rfl
@[simp] theorem oMod_int (i j:Int) (S:Store):oMod (.int i) (.int j) S=if 0<j then .ok (.int (i % j)) S else .bad:=rfl
@[simp] theorem oDiv_int (i j:Int) (S:Store):oDiv (.int i) (.int j) S=if 0<j∧j<1073741824 then .ok (.int (i / j)) S else .bad:=rfl
@[simp] theorem oPow_int (i j:Int) (S:Store):oPow (.int i) (.int j) S=if 0≤j∧j≤1000000∧i.natAbs<18446744073709551616 then .ok (.int (i ^ j.toNat)) S else .bad:=rfl
@[simp] theorem oShl_int (i j:Int) (S:Store):oShl (.int i) (.int j) S=if 0≤j∧j≤1000000∧i.natAbs<18446744073709551616 then .ok (.int (i*2 ^ j.toNat)) S else .bad:=rfl
@[simp] theorem oShr_int (i j:Int) (S:Store):oShr (.int i) (.int j) S=if 0≤j then .ok (.int (i / 2 ^ j.toNat)) S else .bad:=rfl
@[simp] theorem oNeg_int (i:Int) (S:Store):oNeg (.int i) S=.ok (.int (-i)) S:=rfl
@[simp] theorem oCmp_int (g:Int→Int→Bool) (i j:Int) (S:Store):oCmp g (.int i) (.int j) S=.ok (.bl (g i j)) S:=rfl
@[simp] theorem oLt_int (i j:Int) (S:Store):oLt (.int i) (.int j) S=.ok (.bl (decide (i<j))) S:=rfl
theorem eqv_int (i j:Int):PyData.eqv (.int i) (.int j)=decide (i=j):=by
 show (i == j)=decide (i=j)
 rfl
@[simp] theorem oEq_int (i j:Int) (S:Store):oEq (.int i) (.int j) S=.ok (.bl (decide (i=j))) S:=by
 show R.ok (D.bl (PyData.eqv (.int i) (.int j))) S=_
 rw [eqv_int]
@[simp] theorem oNe_int (i j:Int) (S:Store):oNe (.int i) (.int j) S=.ok (.bl (!decide (i=j))) S:=by
 show R.ok (D.bl (!PyData.eqv (.int i) (.int j))) S=_
 rw [eqv_int]
@[simp] theorem oEq_bl (i j:Bool) (S:Store):oEq (.bl i) (.bl j) S=.ok (.bl (i == j)) S:=by
 show R.ok (D.bl (PyData.eqv (.bool i) (.bool j))) S=_
 cases i <;> cases j <;> rfl
@[simp] theorem oNe_bl (i j:Bool) (S:Store):oNe (.bl i) (.bl j) S=.ok (.bl (i != j)) S:=by
 show R.ok (D.bl (!PyData.eqv (.bool i) (.bool j))) S=_
 cases i <;> cases j <;> rfl
@[simp] theorem oIs_non (x:D) (S:Store):oIs x .non S=.ok (.bl x.isNon) S:=by cases x <;> rfl
@[simp] theorem oIsNot_non (x:D) (S:Store):oIsNot x .non S=.ok (.bl (!x.isNon)) S:=by cases x <;> rfl
@[simp] theorem oIs_bl (a b:Bool) (S:Store):oIs (.bl a) (.bl b) S=.ok (.bl (a == b)) S:=rfl
@[simp] theorem oIsNot_bl (a b:Bool) (S:Store):oIsNot (.bl a) (.bl b) S=.ok (.bl (a != b)) S:=rfl
@[simp] theorem fMin_ev (i j:Int) (S:Store):fMin [.int i,.int j] S=.ok (.int (if j<i then j else i)) S:=rfl
@[simp] theorem fMax_ev (i j:Int) (S:Store):fMax [.int i,.int j] S=.ok (.int (if j>i then j else i)) S:=rfl
@[simp] theorem fInt_int (i:Int) (S:Store):fInt [.int i] S=.ok (.int i) S:=rfl
@[simp] theorem fInt_bl (b:Bool) (S:Store):fInt [.bl b] S=.ok (.int (if b then 1 else 0)) S:=rfl
@[simp] theorem fTuple_tup (xs:List D) (S:Store):fTuple [.tup xs] S=.ok (.tup xs) S:=rfl
theorem fTuple_lst {n:Nat}{xs:List D}{S:Store} (h:lstAt S n=some xs):fTuple [.lst n] S=.ok (.tup xs) S:=by
 show (match lstAt S n with | some ys=>R.ok (D.tup ys) S | none=>.bad)=_
 rw [h]
@[simp] theorem fLen_tup (xs:List D) (S:Store):fLen [.tup xs] S=.ok (.int xs.length) S:=rfl
@[simp] theorem fLen_rol (xs:List D) (S:Store):fLen [.rol xs] S=.ok (.int xs.length) S:=rfl
theorem fLen_lst {n:Nat}{xs:List D}{S:Store} (h:lstAt S n=some xs):fLen [.lst n] S=.ok (.int xs.length) S:=by
 show (match seqAt S (.lst n) with | some ys=>R.ok (D.int ys.length) S | none=>.bad)=_
 show (match lstAt S n with | some ys=>R.ok (D.int ys.length) S | none=>.bad)=_
 rw [h]
@[simp] theorem fList_tup (xs:List D) (S:Store):fList [.tup xs] S=.ok (.lst S.length) (S++[.lst xs]):=rfl
@[simp] theorem oIx_tup (xs:List D) (j:Int) (S:Store):oIx (.tup xs) (.int j) S=match atI xs j with | some d=>.ok d S | none=>.bad:=rfl
@[simp] theorem oIx_rol (xs:List D) (j:Int) (S:Store):oIx (.rol xs) (.int j) S=match atI xs j with | some d=>.ok d S | none=>.bad:=rfl
theorem oIx_lst {n:Nat}{xs:List D}{S:Store} (h:lstAt S n=some xs) (j:Int):oIx (.lst n) (.int j) S=match atI xs j with | some d=>.ok d S | none=>.bad:=by
 show (match lstAt S n,D.int j with | some xs,.int j=>(match atI xs j with | some d=>R.ok d S | none=>.bad) | _,_=>.bad)=_
 rw [h]
@[simp] theorem oSl_tup (xs:List D) (lo hi:Option Int) (S:Store):oSl (.tup xs) lo hi S=.ok (.tup (cutD xs lo hi)) S:=rfl
theorem oSl_lst {n:Nat}{xs:List D}{S:Store} (h:lstAt S n=some xs) (lo hi:Option Int):oSl (.lst n) lo hi S=.ok (.lst S.length) (S++[.lst (cutD xs lo hi)]):=by
 show (match lstAt S n with | some xs=>R.ok (D.lst S.length) (S++[O.lst (cutD xs lo hi)]) | none=>.bad)=_
 rw [h]
@[simp] theorem atI_0 {α:Type} (x:α) (xs:List α):atI (x::xs) 0=some x:=atI_nat (j:=0) rfl
@[simp] theorem atI_1 {α:Type} (x y:α) (xs:List α):atI (x::y::xs) 1=some y:=atI_nat (j:=1) rfl
@[simp] theorem atI_2 {α:Type} (x y z:α) (xs:List α):atI (x::y::z::xs) 2=some z:=atI_nat (j:=2) rfl
@[simp] theorem atI_3 {α:Type} (x y z w:α) (xs:List α):atI (x::y::z::w::xs) 3=some w:=atI_nat (j:=3) rfl
structure Kp (P:Nat→Prop) (S S':Store):Prop where
 le:S.length≤S'.length
 eq:∀ j,j<S.length→¬ P j→S'[j]?=S[j]?
noncomputable abbrev Ex:Store→Store→Prop:=Kp fun _=>False
inductive Spc {α:Type} (m:R α) (r:α) (S:Store):Prop
 | mk (S1:Store) (e:m=.ok r S1) (x:Ex S S1)
theorem Kp.refl (P:Nat→Prop) (S:Store):Kp P S S:=⟨Nat.le_refl _,fun _ _ _=>rfl⟩
theorem Kp.trans {P:Nat→Prop}{S S1 S2:Store} (a:Kp P S S1) (b:Kp P S1 S2):Kp P S S2:=⟨Nat.le_trans a.le b.le,fun j h n=>(b.eq j (Nat.lt_of_lt_of_le h a.le) n).trans (a.eq j h n)⟩
theorem Ex.kp {P:Nat→Prop}{S S':Store} (h:Ex S S'):Kp P S S':=⟨h.le,fun j hj _=>h.eq j hj (fun z=>z)⟩
theorem Kp.kp {P:Nat→Prop}{S S':Store} (h:Kp (fun _=>False) S S'):Kp P S S':=⟨h.le,fun j hj _=>h.eq j hj (fun z=>z)⟩
theorem ex_app (S T:Store):Ex S (S++T):=⟨by simp,fun j h _=>List.getElem?_append_left h⟩
theorem kp_set {i:Nat} (S:Store) (o:O):Kp (·=i) S (S.set i o):=⟨by simp,fun j h n=>List.getElem?_set_ne fun z=>n z.symm⟩
theorem Kp.at {P:Nat→Prop}{S S':Store} (h:Kp P S S') {j:Nat}{o:O} (e:S[j]?=some o) (n:¬ P j):S'[j]?=some o:=by
 rw [h.eq j (List.getElem?_eq_some_iff.mp e).1 n]; exact e
theorem lstAt_some {S:Store}{n:Nat}{xs:List D} (h:lstAt S n=some xs):S[n]?=some (.lst xs):=by
 unfold lstAt at h
 split at h
 ·rename_i ys e; cases h; exact e
 ·cases h
theorem lstAt_of {S:Store}{n:Nat}{xs:List D} (h:S[n]?=some (.lst xs)):lstAt S n=some xs:=by unfold lstAt; rw [h]
theorem Kp.lst {P:Nat→Prop}{S S':Store} (h:Kp P S S') {j:Nat}{xs:List D} (e:lstAt S j=some xs) (n:¬ P j):lstAt S' j=some xs:=lstAt_of (h.at (lstAt_some e) n)
theorem lstAt_lt {S:Store}{n:Nat}{xs:List D} (h:lstAt S n=some xs):n<S.length:=(List.getElem?_eq_some_iff.mp (lstAt_some h)).1
@[simp] theorem lstAt_new (S:Store) (xs:List D):lstAt (S++[.lst xs]) S.length=some xs:=lstAt_of (by rw [List.getElem?_append_right (Nat.le_refl _),Nat.sub_self]; rfl)
theorem lstAt_app {S T:Store}{n:Nat}{xs:List D} (h:lstAt S n=some xs):lstAt (S++T) n=some xs:=(ex_app S T).lst h fun z=>z
theorem lstAt_set {S:Store}{n:Nat}{xs ys:List D} (h:lstAt S n=some xs):lstAt (S.set n (.lst ys)) n=some ys:=lstAt_of (List.getElem?_set_self (lstAt_lt h))
theorem tyOk_lst {S:Store}{n:Nat}{xs:List D} (h:lstAt S n=some xs):tyOk "list" (.lst n) S=true:=by
 show (decide ("list" = "list")&&(lstAt S n).isSome)=true
 rw [h]; rfl
theorem mList_ev {S:Store}{n:Nat}{ys:List D} (h:lstAt S n=some ys) (g:List D→List D→Option (List D × D)) (xs:List D):mList g (.lst n) xs S=match g ys xs with | some p=>.ok p.2 (S.set n (.lst p.1)) | none=>.bad:=by
 unfold mList
 dsimp only
 rw [lstAt_some h]
 dsimp only
 cases g ys xs with
 | none=>rfl
 | some p=>rfl
@[simp] theorem gAppend_ev (ys:List D) (x:D):gAppend ys [x]=if ys.length<lim then some (ys++[x],.non) else none:=rfl
@[simp] theorem gInsert_ev (ys:List D) (i:Int) (x:D):gInsert ys [.int i,x]=if ys.length<1000∧0≤i∧i.toNat≤ys.length then some (ys.take i.toNat++x::ys.drop i.toNat,.non) else none:=rfl
theorem oSet_lst {S:Store}{n:Nat}{ys:List D} (h:lstAt S n=some ys) (k:Int) (v:D):oSet (.lst n) (.int k) v S=match ixN ys.length k with | some j=>some (S.set n (.lst (ys.set j v))) | none=>none:=by
 unfold oSet
 dsimp only
 rw [lstAt_some h]
 all_goals (dsimp only; cases ixN ys.length k <;> rfl)
theorem okW_nil (S:Store):okW [] S:=fun p h=>by cases h
theorem okW_one {S:Store}{n:Nat}{xs:List D} (h:lstAt S n=some xs):okW [(n,xs)] S:=fun p hp=>by
 simp at hp; subst hp; exact h
theorem okW_two {S:Store}{n m:Nat}{xs ys:List D} (h:lstAt S n=some xs) (h2:lstAt S m=some ys):okW [(n,xs),(m,ys)] S:=fun p hp=>by
 simp at hp
 rcases hp with rfl | rfl
 ·exact h
 ·exact h2
theorem loop_go {w:Watch}{g:G}{b:CS}:∀ (items:List D) (P:Nat→Env1→Store→Prop) {ρ:Env1}{S:Store} (k:Nat),(∀ i ρ S,P i ρ S→okW w S)→P k ρ S →
  (∀ i d ρ S,items[i]?=some d→P (k+i) ρ S→∃ ρ1 S1,g d ρ S=.ok ρ1 S1∧∃ ρ2 S2,(b ρ1 S1=.nx ρ2 S2∨b ρ1 S1=.ct ρ2 S2)∧P (k+i+1) ρ2 S2)→∃ ρ' S',loopS w g b items ρ S=.nx ρ' S'∧P (k+items.length) ρ' S'
 | [],P,ρ,S,k,hw,h0,hs=>⟨ρ,S,by unfold loopS; rw [if_pos (hw k ρ S h0)],by simpa using h0⟩
 | d::ds,P,ρ,S,k,hw,h0,hs=>by
  obtain ⟨ρ1,S1,e1,ρ2,S2,e2,p2⟩:=hs 0 d ρ S rfl (by simpa using h0)
  obtain ⟨ρ',S',e3,p3⟩:=loop_go ds P (k+1) hw (by simpa using p2) (fun i d' ρ S hi hp=>by
   obtain ⟨ρ1,S1,q1,ρ2,S2,q2,q3⟩:=hs (i+1) d' ρ S (by rw [List.getElem?_cons_succ]; exact hi) (by rw [show k+(i+1)=k+1+i by omega]; exact hp)
   exact ⟨ρ1,S1,q1,ρ2,S2,q2,by rw [show k+1+i+1=k+(i+1)+1 by omega]; exact q3⟩)
  refine ⟨ρ',S',?_,by rw [List.length_cons,show k+(ds.length+1)=k+1+ds.length by omega]; exact p3⟩
  unfold loopS
  rw [if_pos (hw k ρ S h0),e1]
  dsimp only
  rcases e2 with e2 | e2
  ·rw [e2]; exact e3
  ·rw [e2]; exact e3
inductive TurnE (r:RS) (P:Env1→Store→Prop):Prop
 | mk (ρ2:Env1) (S2:Store) (h:r=.nx ρ2 S2∨r=.ct ρ2 S2) (p:P ρ2 S2)
inductive TurnR (g:G) (b:CS) (d:D) (ρ:Env1) (S:Store) (P:Env1→Store→Prop):Prop
 | mk (ρ1:Env1) (S1:Store) (e:g d ρ S=.ok ρ1 S1) (t:TurnE (b ρ1 S1) P)
inductive LoopR (r:RS) (P:Env1→Store→Prop):Prop
 | mk (ρ':Env1) (S':Store) (e:r=.nx ρ' S') (p:P ρ' S')
theorem loop_inv {w:Watch}{g:G}{b:CS}{items:List D} (P:Nat→Env1→Store→Prop) {ρ:Env1}{S:Store} (hw:∀ i ρ S,P i ρ S→okW w S) (h0:P 0 ρ S)
  (hs:∀ i d ρ S,items[i]?=some d→P i ρ S→TurnR g b d ρ S (P (i+1))):LoopR (loopS w g b items ρ S) (P items.length):=by
 obtain ⟨ρ',S',e,p⟩:=loop_go items P 0 hw h0 (fun i d ρ S hi hp=>by
  obtain ⟨ρ1,S1,q1,ρ2,S2,q2,q3⟩:=hs i d ρ S hi (by simpa using hp)
  exact ⟨ρ1,S1,q1,ρ2,S2,q2,by simpa using q3⟩)
 exact ⟨ρ',S',e,by simpa using p⟩
inductive CompR (m:R (List D)) (r:List D) (P:Store→Prop):Prop
 | mk (S':Store) (e:m=.ok r S') (p:P S')
theorem comp_go {w:Watch}{t:Tgt}{tc:CT}{c:C}{ρ0:Env1} (P:Store→Prop) (hw:∀ S,P S→okW w S):∀ (items:List D) (p:D→Bool) (f:D→D) {S:Store},P S →
  (∀ d∈items,∀ S,P S→∃ ρ1,bindT t d ρ0=some ρ1∧∃ S1,tc ρ1 S=.ok (p d) S1∧(p d=false→P S1)∧(p d=true→∃ S2,c ρ1 S1=.ok (f d) S2∧P S2))→CompR (loopC w t tc c ρ0 items S) ((items.filter p).map f) P
 | [],p,f,S,h0,hs=>⟨S,by unfold loopC; rw [if_pos (hw S h0)]; rfl,h0⟩
 | d::ds,p,f,S,h0,hs=>by
  obtain ⟨ρ1,e1,S1,e2,hf,ht⟩:=hs d (by simp) S h0
  unfold loopC
  rw [if_pos (hw S h0),e1]
  dsimp only
  rw [bnd_ev,e2,rbnd_ok]
  cases hp:p d with
  | false =>
   obtain ⟨S',e3,h3⟩:=comp_go P hw ds p f (hf hp) fun d' hd=>hs d' (by simp [hd])
   exact ⟨S',by rw [if_neg Bool.false_ne_true,e3,List.filter_cons,hp]; rfl,h3⟩
  | true =>
   obtain ⟨S2,e4,h4⟩:=ht hp
   obtain ⟨S',e3,h3⟩:=comp_go P hw ds p f h4 fun d' hd=>hs d' (by simp [hd])
   exact ⟨S',by rw [if_pos rfl,bnd_ev,e4,rbnd_ok,bnd_ev,e3,rbnd_ok,List.filter_cons,hp]; rfl,h3⟩
theorem comp_map {w:Watch}{t:Tgt}{c:C}{ρ0:Env1} (P:Store→Prop) (hw:∀ S,P S→okW w S) (items:List D) (f:D→D) {S:Store} (h0:P S)
  (hs:∀ d∈items,∀ S,P S→∃ ρ1,bindT t d ρ0=some ρ1∧∃ S2,c ρ1 S=.ok (f d) S2∧P S2):CompR (loopC w t (fun _=>ret true) c ρ0 items S) (items.map f) P:=by
 obtain ⟨S',e,h⟩:=comp_go (w:=w) (t:=t) (tc:=fun _=>ret true) (c:=c) (ρ0:=ρ0) P hw items (fun _=>true) f h0 (fun d hd S h=>by
  obtain ⟨ρ1,e1,S2,e2,h2⟩:=hs d hd S h
  exact ⟨ρ1,e1,S,rfl,(fun z=>by cases z),fun _=>⟨S2,e2,h2⟩⟩)
 exact ⟨S',by rw [e,List.filter_eq_self.mpr (by simp)],h⟩
theorem comp_goM {α:Type} (e:α→D) {w:Watch}{t:Tgt}{tc:CT}{c:C}{ρ0:Env1} (P:Store→Prop) (hw:∀ S,P S→okW w S) (p:α→Bool) (f:α→D):∀ (l:List α) {S:Store},P S →
  (∀ a∈l,∀ S,P S→∃ ρ1,bindT t (e a) ρ0=some ρ1∧∃ S1,tc ρ1 S=.ok (p a) S1∧(p a=false→P S1)∧(p a=true→∃ S2,c ρ1 S1=.ok (f a) S2∧P S2))→CompR (loopC w t tc c ρ0 (l.map e) S) ((l.filter p).map f) P
 | [],S,h0,hs=>⟨S,by rw [List.map_nil]; unfold loopC; rw [if_pos (hw S h0)]; rfl,h0⟩
 | d::ds,S,h0,hs=>by
  obtain ⟨ρ1,e1,S1,e2,hf,ht⟩:=hs d (by simp) S h0
  rw [List.map_cons]
  unfold loopC
  rw [if_pos (hw S h0),e1]
  dsimp only
  rw [bnd_ev,e2,rbnd_ok]
  cases hp:p d with
  | false =>
   obtain ⟨S',e3,h3⟩:=comp_goM e P hw p f ds (hf hp) fun d' hd=>hs d' (by simp [hd])
   exact ⟨S',by rw [if_neg Bool.false_ne_true,e3,List.filter_cons,hp]; rfl,h3⟩
  | true =>
   obtain ⟨S2,e4,h4⟩:=ht hp
   obtain ⟨S',e3,h3⟩:=comp_goM e P hw p f ds h4 fun d' hd=>hs d' (by simp [hd])
   exact ⟨S',by rw [if_pos rfl,bnd_ev,e4,rbnd_ok,bnd_ev,e3,rbnd_ok,List.filter_cons,hp]; rfl,h3⟩
theorem comp_mapM {α:Type} (e:α→D) {w:Watch}{t:Tgt}{c:C}{ρ0:Env1} (P:Store→Prop) (hw:∀ S,P S→okW w S) (f:α→D) (l:List α) {S:Store} (h0:P S)
  (hs:∀ a∈l,∀ S,P S→∃ ρ1,bindT t (e a) ρ0=some ρ1∧∃ S2,c ρ1 S=.ok (f a) S2∧P S2):CompR (loopC w t (fun _=>ret true) c ρ0 (l.map e) S) (l.map f) P:=by
 obtain ⟨S',e,h⟩:=comp_goM e (w:=w) (t:=t) (tc:=fun _=>ret true) (c:=c) (ρ0:=ρ0) P hw (fun _=>true) f l h0 (fun d hd S h=>by
  obtain ⟨ρ1,e1,S2,e2,h2⟩:=hs d hd S h
  exact ⟨ρ1,e1,S,rfl,(fun z=>by cases z),fun _=>⟨S2,e2,h2⟩⟩)
 exact ⟨S',by rw [e,List.filter_eq_self.mpr (by simp)],h⟩
theorem comp_pure {α:Type} (e:α→D) {w:Watch}{t:Tgt}{tc:CT}{c:C}{ρ0:Env1}{S:Store} (hw:okW w S) (p:α→Bool) (f:α→D) (l:List α)
  (hs:∀ a∈l,∃ ρ1,bindT t (e a) ρ0=some ρ1∧tc ρ1 S=.ok (p a) S∧(p a=true→c ρ1 S=.ok (f a) S)):loopC w t tc c ρ0 (l.map e) S=.ok ((l.filter p).map f) S:=by
 obtain ⟨S',e1,h⟩:=comp_goM e (w:=w) (t:=t) (tc:=tc) (c:=c) (ρ0:=ρ0) (fun S'=>S'=S) (fun S' z=>z▸hw) p f l rfl (fun a ha S' z=>by
  subst z
  obtain ⟨ρ1,q1,q2,q3⟩:=hs a ha
  exact ⟨ρ1,q1,S',q2,fun _=>rfl,fun z=>⟨S',q3 z,rfl⟩⟩)
 rw [e1,h]
theorem comp_pureM {α:Type} (e:α→D) {w:Watch}{t:Tgt}{c:C}{ρ0:Env1}{S:Store} (hw:okW w S) (f:α→D) (l:List α)
  (hs:∀ a∈l,∃ ρ1,bindT t (e a) ρ0=some ρ1∧c ρ1 S=.ok (f a) S):loopC w t (fun _=>ret true) c ρ0 (l.map e) S=.ok (l.map f) S:=by
 have:=comp_pure e (tc:=fun _=>ret true) (c:=c) hw (fun _=>true) f l (fun a ha=>by
  obtain ⟨ρ1,q1,q2⟩:=hs a ha
  exact ⟨ρ1,q1,rfl,fun _=>q2⟩)
 rw [this,List.filter_eq_self.mpr (by simp)]
theorem while_go {t:CT}{b:CS} (P:Nat→Env1→Store→Prop) (Q:Env1→Store→Prop) (hs:∀ m ρ S,P m ρ S→(∃ S1,t ρ S=.ok false S1∧Q ρ S1)∨∃ S1,t ρ S=.ok true S1∧∃ ρ2 S2,(b ρ S1=.nx ρ2 S2∨b ρ S1=.ct ρ2 S2)∧∃ m',m'<m∧P m' ρ2 S2) :
  ∀ (k m:Nat) (ρ:Env1) (S:Store),m<k→P m ρ S→∃ ρ' S',whileS k t b ρ S=.nx ρ' S'∧Q ρ' S'
 | 0,m,ρ,S,hk,h=>absurd hk (Nat.not_lt_zero _)
 | k+1,m,ρ,S,hk,h=>by
  unfold whileS
  rcases hs m ρ S h with ⟨S1,e,q⟩ | ⟨S1,e,ρ2,S2,e2,m',hm,p2⟩
  ·rw [e]; exact ⟨ρ,S1,rfl,q⟩
  ·obtain ⟨ρ',S',e3,q⟩:=while_go P Q hs k m' ρ2 S2 (by omega) p2
   rw [e]
   dsimp only
   rcases e2 with e2 | e2
   ·rw [e2]; exact ⟨ρ',S',e3,q⟩
   ·rw [e2]; exact ⟨ρ',S',e3,q⟩
noncomputable def dkOf (fs:List Int):List (Key × D):=fs.map fun x=>((Sum.inl x:Key),D.bl true)
noncomputable def addK (fs:List Int) (a:Int):List Int:=if a∈fs then fs else fs++[a]
theorem dk_any (fs:List Int) (a:Int):((dkOf fs).any fun kv=>decide (kv.1=(Sum.inl a:Key)))=decide (a∈fs):=by
 induction fs with
 | nil=>rfl
 | cons x r ih =>
  show (decide ((Sum.inl x:Key)=Sum.inl a)||(dkOf r).any _)=_
  rw [ih]
  by_cases h:x=a
  ·subst h; simp
  ·have:(Sum.inl x:Key)≠Sum.inl a:=fun z=>h (Sum.inl.inj z)
   simp [this,Ne.symm h]
theorem dk_put (fs:List Int) (a:Int):putD (dkOf fs) (.inl a) (.bl true)=dkOf (addK fs a):=by
 unfold putD addK
 rw [dk_any]
 by_cases h:a∈fs
 ·rw [if_pos (by simpa using h),if_pos h]
  unfold dkOf
  rw [List.map_map]
  refine List.map_congr_left fun x _=>?_
  show (if (Sum.inl x:Key)=Sum.inl a then ((Sum.inl x:Key),D.bl true) else (Sum.inl x,D.bl true))=_
  split <;> rfl
 ·rw [if_neg (by simpa using h),if_neg h]
  unfold dkOf
  simp
theorem dk_val (fs:List Int) (a:Int):valD (dkOf fs) (.inl a)=if a∈fs then some (.bl true) else none:=by
 unfold valD
 induction fs with
 | nil=>rfl
 | cons x r ih =>
  show Option.map _ (List.find? _ (((Sum.inl x:Key),D.bl true)::dkOf r))=_
  rw [List.find?_cons]
  by_cases h:x=a
  ·subst h; simp
  ·have:(Sum.inl x:Key)≠Sum.inl a:=fun z=>h (Sum.inl.inj z)
   simp only [this,decide_false]
   rw [ih]
   simp [Ne.symm h]
theorem oIn_dk {S:Store}{m:Nat}{fs:List Int} (h:S[m]?=some (.dk (dkOf fs))) (neg:Bool) (a:Int):oIn neg (.int a) (.dct m) S=.ok (.bl (if neg then !decide (a∈fs) else decide (a∈fs))) S:=by
 have e:dictAt S m (.int a)=some (if a∈fs then some (.bl true) else none):=by
  unfold dictAt
  rw [h]
  show some (valD (dkOf fs) (.inl a))=_
  rw [dk_val]
 show (match dictAt S m (.int a) with | some o=>R.ok (D.bl (if neg then !o.isSome else o.isSome)) S | none=>.bad)=_
 rw [e]
 by_cases hm:a∈fs
 ·simp [hm]
 ·simp [hm]
theorem oSet_dk {S:Store}{m:Nat}{fs:List Int} (h:S[m]?=some (.dk (dkOf fs))) (hl:fs.length<lim) (a:Int):oSet (.dct m) (.int a) (.bl true) S=some (S.set m (.dk (dkOf (addK fs a)))):=by
 unfold oSet
 dsimp only
 rw [h]
 show (if (dkOf fs).length<lim then some (S.set m (.dk (putD (dkOf fs) (.inl a) (.bl true)))) else none)=_
 rw [if_pos (by unfold dkOf; rw [List.length_map]; exact hl),dk_put]
theorem mem_addK {fs:List Int}{a x:Int}:x∈addK fs a↔x∈fs∨x=a:=by
 unfold addK
 split
 ·rename_i h
  exact ⟨.inl,fun z=>z.elim id fun e=>e▸h⟩
 ·simp
@[simp] theorem bindT_one (d:D) (ρ:Env1):bindT .one d ρ=some (ρ.set 0 (some d)):=rfl
@[simp] theorem bindT_two (x y:D) (ρ:Env1):bindT (.many 2) (.tup [x,y]) ρ=some ((ρ.set 0 (some x)).set 1 (some y)):=rfl
@[simp] theorem stE_ev (k:Nat) (js:List Nat) (ρ:Env1):stE k js ρ=List.replicate k none++js.map fun j=>(ρ[j]?).getD none:=rfl
theorem runF_ev {np nN:Nat}{b:CS}{ds:List D}{S:Store} (h:ds.length=np):runF np nN b ds S=match b (startE nN ds) S with
 | .nx _ S'=>.ok .non S'
 | .rt d S'=>.ok d S'
 | .er c S'=>.er c S'
 | _=>.bad:=by
 unfold runF
 rw [if_pos h]
 all_goals (cases b (startE nN ds) S <;> rfl)
theorem run_rt {np nN:Nat}{b:CS}{ds:List D}{S S':Store}{d:D} (h:ds.length=np) (e:b (startE nN ds) S=.rt d S'):runF np nN b ds S=.ok d S':=by rw [runF_ev h,e]
theorem run_nx {np nN:Nat}{b:CS}{ds:List D}{S S':Store}{ρ:Env1} (h:ds.length=np) (e:b (startE nN ds) S=.nx ρ S'):runF np nN b ds S=.ok .non S':=by rw [runF_ev h,e]
open PySem
noncomputable def plain:Nat→D→Bool
 | 0,_=>false
 | n+1,d=>match d with
  | .int _=>true
  | .non=>true
  | .str x=>PyData.strOk x
  | .tup xs=>xs.all (plain n)
  | _=>false
noncomputable def pdat:Nat→D→PyData
 | 0,_=>.none
 | n+1,d=>match d with
  | .int i=>.int i
  | .str x=>.str x
  | .tup xs=>.tuple (xs.map (pdat n))
  | _=>.none
theorem mapM_some {α β:Type}{f:α→Option β}{g:α→β}{l:List α} (h:∀ x∈l,f x=some (g x)):l.mapM f=some (l.map g):=by
 induction l with
 | nil=>rfl
 | cons a r ih =>
  rw [List.mapM_cons,h a (by simp),ih fun x hx=>h x (by simp [hx])]
  rfl
theorem snap_plain:∀ {n:Nat}{d:D} (S:Store),plain n d=true→snap n S d=some (pdat n d)
 | 0,d,S,h=>by cases h
 | n+1,d,S,h=>by
  unfold plain at h
  unfold snap pdat
  cases d with
  | int i=>rfl
  | non=>rfl
  | str x=>dsimp only at h ⊢; rw [if_pos h]
  | tup xs =>
   dsimp only at h ⊢
   rw [mapM_some (g:=pdat n) fun x hx=>snap_plain S (List.all_eq_true.mp h x hx)]
   rfl
  | _=>cases h
theorem eqvAll_iff {n:Nat} (ih:∀ d e,plain n d=true→plain n e=true→(PyData.eqv (pdat n d) (pdat n e)=true↔d=e)):∀ (xs ys:List D),xs.all (plain n)=true→ys.all (plain n)=true→(PyData.eqvAll (xs.map (pdat n)) (ys.map (pdat n))=true↔xs=ys)
 | [],[],_,_=>by simp [PyData.eqvAll]
 | [],y::ys,_,_=>by simp [PyData.eqvAll]
 | x::xs,[],_,_=>by simp [PyData.eqvAll]
 | x::xs,y::ys,h1,h2=>by
  rw [List.all_cons,Bool.and_eq_true] at h1 h2
  rw [List.map_cons,List.map_cons]
  show (PyData.eqv (pdat n x) (pdat n y)&&PyData.eqvAll (xs.map (pdat n)) (ys.map (pdat n)))=true↔_
  rw [Bool.and_eq_true,ih x y h1.1 h2.1,eqvAll_iff ih xs ys h1.2 h2.2,List.cons.injEq]
theorem eqv_plain:∀ (n:Nat) (d e:D),plain n d=true→plain n e=true→(PyData.eqv (pdat n d) (pdat n e)=true↔d=e)
 | 0,d,e,h,_=>by cases h
 | n+1,d,e,h1,h2=>by
  unfold plain at h1 h2
  unfold pdat
  cases d with
  | int i =>
   cases e with
   | int j=>simp [PyData.eqv]
   | non=>simp [PyData.eqv]
   | str y=>simp [PyData.eqv]
   | tup ys=>simp [PyData.eqv]
   | _=>cases h2
  | non =>
   cases e with
   | int j=>simp [PyData.eqv]
   | non=>simp [PyData.eqv]
   | str y=>simp [PyData.eqv]
   | tup ys=>simp [PyData.eqv]
   | _=>cases h2
  | str x =>
   cases e with
   | int j=>simp [PyData.eqv]
   | non=>simp [PyData.eqv]
   | str y=>simp [PyData.eqv]
   | tup ys=>simp [PyData.eqv]
   | _=>cases h2
  | tup xs =>
   cases e with
   | int j=>simp [PyData.eqv]
   | non=>simp [PyData.eqv]
   | str y=>simp [PyData.eqv]
   | tup ys =>
    show PyData.eqvAll (xs.map (pdat n)) (ys.map (pdat n))=true↔_
    rw [eqvAll_iff (eqv_plain n) xs ys h1 h2]
    simp
   | _=>cases h2
  | _=>cases h1
noncomputable def eqB {α:Type} (x y:α):Bool:=@decide (x=y) (Classical.propDecidable _)
theorem eqB_iff {α:Type}{x y:α}:eqB x y=true↔x=y:=@decide_eq_true_iff _ (Classical.propDecidable _)
@[simp] theorem eqB_self {α:Type} (x:α):eqB x x=true:=eqB_iff.mpr rfl
theorem bool_ext {a b:Bool} (h:a=true↔b=true):a=b:=by cases a <;> cases b <;> simp at h ⊢
theorem oEq_plain {x y:D} (S:Store) (h1:plain 40 x=true) (h2:plain 40 y=true):oEq x y S=.ok (.bl (eqB x y)) S:=by
 unfold oEq
 split
 ·rename_i a b
  rw [bool_ext (a:=decide (a=b)) (b:=eqB (D.str a) (D.str b)) (by rw [eqB_iff,decide_eq_true_iff]; exact ⟨fun q=>by rw [q],fun q=>by injection q⟩)]
 ·rw [snap_plain S h1,snap_plain S h2]
  dsimp only
  rw [bool_ext ((eqv_plain 40 x y h1 h2).trans eqB_iff.symm)]
theorem oNe_plain {x y:D} (S:Store) (h1:plain 40 x=true) (h2:plain 40 y=true):oNe x y S=.ok (.bl (!eqB x y)) S:=by
 unfold oNe
 split
 ·rename_i a b
  rw [bool_ext (a:=decide (a=b)) (b:=eqB (D.str a) (D.str b)) (by rw [eqB_iff,decide_eq_true_iff]; exact ⟨fun q=>by rw [q],fun q=>by injection q⟩)]
 ·rw [snap_plain S h1,snap_plain S h2]
  dsimp only
  rw [bool_ext ((eqv_plain 40 x y h1 h2).trans eqB_iff.symm)]
theorem plain_int {n:Nat} (h:0<n) (i:Int):plain n (.int i)=true:=by
 cases n with
 | zero=>cases h
 | succ n=>rfl
theorem plain_tup {n:Nat}{xs:List D} (h:∀ x∈xs,plain n x=true):plain (n+1) (.tup xs)=true:=List.all_eq_true.mpr h
theorem plain_ints {n:Nat} (h:0<n) (l:List Int):∀ x∈l.map D.int,plain n x=true:=fun x hx=>by
 obtain ⟨i,_,rfl⟩:=List.mem_map.mp hx
 exact plain_int h i
theorem inst_tup (xs:List D) (S:Store):fInst [.tup xs,.ty "tuple"] S=.ok (.bl true) S:=rfl
@[simp] theorem inst_int_bool (i:Int) (S:Store):fInst [.int i,.ty "bool"] S=.ok (.bl false) S:=rfl
@[simp] theorem inst_int_int (i:Int) (S:Store):fInst [.int i,.ty "int"] S=.ok (.bl true) S:=rfl
@[simp] theorem inst_int_tuple (i:Int) (S:Store):fInst [.int i,.ty "tuple"] S=.ok (.bl false) S:=rfl
@[simp] theorem inst_int_list (i:Int) (S:Store):fInst [.int i,.ty "list"] S=.ok (.bl false) S:=rfl
@[simp] theorem inst_bool_bool (b:Bool) (S:Store):fInst [.bl b,.ty "bool"] S=.ok (.bl true) S:=rfl
@[simp] theorem inst_bool_int (b:Bool) (S:Store):fInst [.bl b,.ty "int"] S=.ok (.bl true) S:=rfl
@[simp] theorem inst_bool_tuple (b:Bool) (S:Store):fInst [.bl b,.ty "tuple"] S=.ok (.bl false) S:=rfl
@[simp] theorem inst_bool_list (b:Bool) (S:Store):fInst [.bl b,.ty "list"] S=.ok (.bl false) S:=rfl
@[simp] theorem inst_NoneType_bool  (S:Store):fInst [.non,.ty "bool"] S=.ok (.bl false) S:=rfl
@[simp] theorem inst_NoneType_int  (S:Store):fInst [.non,.ty "int"] S=.ok (.bl false) S:=rfl
@[simp] theorem inst_NoneType_tuple  (S:Store):fInst [.non,.ty "tuple"] S=.ok (.bl false) S:=rfl
@[simp] theorem inst_NoneType_list  (S:Store):fInst [.non,.ty "list"] S=.ok (.bl false) S:=rfl
@[simp] theorem inst_str_bool (x:Str) (S:Store):fInst [.str x,.ty "bool"] S=.ok (.bl false) S:=rfl
@[simp] theorem inst_str_int (x:Str) (S:Store):fInst [.str x,.ty "int"] S=.ok (.bl false) S:=rfl
@[simp] theorem inst_str_tuple (x:Str) (S:Store):fInst [.str x,.ty "tuple"] S=.ok (.bl false) S:=rfl
@[simp] theorem inst_str_list (x:Str) (S:Store):fInst [.str x,.ty "list"] S=.ok (.bl false) S:=rfl
@[simp] theorem inst_tuple_bool (xs:List D) (S:Store):fInst [.tup xs,.ty "bool"] S=.ok (.bl false) S:=rfl
@[simp] theorem inst_tuple_int (xs:List D) (S:Store):fInst [.tup xs,.ty "int"] S=.ok (.bl false) S:=rfl
@[simp] theorem inst_tuple_tuple (xs:List D) (S:Store):fInst [.tup xs,.ty "tuple"] S=.ok (.bl true) S:=rfl
@[simp] theorem inst_tuple_list (xs:List D) (S:Store):fInst [.tup xs,.ty "list"] S=.ok (.bl false) S:=rfl
open PySem
theorem intsOf_map (ns:List Int):intsOf (ns.map D.int)=some ns:=by
 induction ns with
 | nil=>rfl
 | cons a r ih=>show (intsOf (r.map D.int)).map (a::·)=_; rw [ih]; rfl
@[simp] theorem mBits_ev (i:Int) (S:Store):mBits (.int i) [] S=.ok (.int ((Builtin.Int.intBits i:Nat):Int)) S:=rfl
@[simp] theorem tyOk_int (i:Int) (S:Store):tyOk "int" (.int i) S=true:=rfl
theorem fBools_tup (g:List Bool→Bool) (ns:List Int) (S:Store):fBools g [.tup (ns.map D.int)] S=.ok (.bl (g (ns.map (· != 0)))) S:=by
 unfold fBools
 simp only [intsOf_map]
theorem cutD_take (xs:List D) {k:Int} (h0:0≤k):cutD xs none (some k)=xs.take k.toNat:=by
 unfold cutD
 rw [show k=((k.toNat:Nat):Int) by omega,HT.sIx_nat,HT.sIx_none,Nat.sub_zero,List.drop_zero,Int.toNat_natCast]
 by_cases h:k.toNat≤xs.length
 ·rw [Nat.min_eq_left h]
 ·rw [Nat.min_eq_right (by omega),List.take_length,List.take_of_length_le (by omega)]
theorem cutD_drop (xs:List D) {k:Int} (h0:0≤k):cutD xs (some k) none=xs.drop k.toNat:=by
 unfold cutD
 rw [show k=((k.toNat:Nat):Int) by omega,HT.sIx_nat,HT.sIx_none,Int.toNat_natCast]
 by_cases h:k.toNat≤xs.length
 ·rw [Nat.min_eq_left h,List.take_of_length_le (by simp)]
 ·rw [Nat.min_eq_right (by omega),Nat.sub_self,List.take_zero,List.drop_of_length_le (by omega)]
theorem loop_find {α:Type} (e:α→D) {w:Watch}{g:G}{b:CS} (P:Env1→Store→Prop) (R:Store→Prop) (hw:∀ ρ S,P ρ S→okW w S) (p:α→Bool) (r:α→D):∀ (l:List α) {ρ:Env1}{S:Store},P ρ S →
  (∀ a∈l,∀ ρ S,P ρ S→∃ ρ1 S1,g (e a) ρ S=.ok ρ1 S1∧((p a=true∧∃ S2,b ρ1 S1=.rt (r a) S2∧R S2)∨(p a=false∧∃ ρ2 S2,(b ρ1 S1=.nx ρ2 S2∨b ρ1 S1=.ct ρ2 S2)∧P ρ2 S2))) →
  (∃ a S',l.find? p=some a∧loopS w g b (l.map e) ρ S=.rt (r a) S'∧R S')∨(∃ ρ' S',l.find? p=none∧loopS w g b (l.map e) ρ S=.nx ρ' S'∧P ρ' S')
 | [],ρ,S,h0,hs=>.inr ⟨ρ,S,rfl,by rw [List.map_nil]; unfold loopS; rw [if_pos (hw ρ S h0)],h0⟩
 | a::l,ρ,S,h0,hs=>by
  obtain ⟨ρ1,S1,e1,h⟩:=hs a (by simp) ρ S h0
  rw [List.map_cons]
  unfold loopS
  rw [if_pos (hw ρ S h0),e1]
  dsimp only
  rcases h with ⟨hp,S2,e2,r2⟩ | ⟨hp,ρ2,S2,e2,p2⟩
  ·exact .inl ⟨a,S2,by rw [List.find?_cons,hp],by rw [e2],r2⟩
  ·rcases loop_find e P R hw p r l p2 (fun a ha=>hs a (by simp [ha])) with ⟨a',S',f1,f2,f3⟩ | ⟨ρ',S',f1,f2,f3⟩
   ·exact .inl ⟨a',S',by rw [List.find?_cons,hp]; exact f1,by rcases e2 with e2 | e2 <;> rw [e2] <;> exact f2,f3⟩
   ·exact .inr ⟨ρ',S',by rw [List.find?_cons,hp]; exact f1,by rcases e2 with e2 | e2 <;> rw [e2] <;> exact f2,f3⟩
end L2
namespace My
open PySem L2
noncomputable def b_is_whole (cl:CLL):CS :=
 (sSeq (sRet (cAndV (cApp fInst (cArgs [(cVar 0),(cCon (.ty "int"))])) (cNotV (cApp fInst (cArgs [(cVar 0),(cCon (.ty "bool"))])))))
  sPass)
def Hs_is_whole (cl:Nat→CLL):Prop:=∀ n,cl (n+1) "is_whole"=runF 1 1 (b_is_whole (cl n))
noncomputable def b_is_bit (cl:CLL):CS :=
 (sSeq (sRet (cAndV (cApp (cl "is_whole") (cArgs [(cVar 0)])) (cChain (oCmp fun i j=>decide (i≤j)) (oCmp fun i j=>decide (i≤j)) (cCon (.int 0)) (cVar 0) (cCon (.int 1)))))
  sPass)
def Hs_is_bit (cl:Nat→CLL):Prop:=∀ n,cl (n+1) "is_bit"=runF 1 1 (b_is_bit (cl n))
noncomputable def settings_e1 (cl:CLL):C :=
 (cBin oAdd (cTup (cArgs [(cCon (.int 0))])) (cVar 0))
noncomputable def settings_e2 (cl:CLL):C :=
 (cBin oAdd (cTup (cArgs [(cCon (.int 1))])) (cVar 0))
noncomputable def settings_l1 (cl:CLL):CS :=
 (sSeq (sAsg (cBin oAdd (cComp (iSeq (cVar 1)) 1 [] .one (fun _=>ret true) (settings_e1 cl)) (cComp (iSeq (cVar 1)) 1 [] .one (fun _=>ret true) (settings_e2 cl))) (gN 1))
  sPass)
noncomputable def b_settings (cl:CLL):CS :=
 (sSeq (sAsg (cLst (cArgs [(cTup (cArgs []))])) (gN 1))
  (sSeq (sFor (iRange1 (cArgs [(cVar 0)])) (gN 2) (settings_l1 cl))
  (sSeq (sRet (cVar 1))
  sPass)))
def Hs_settings (cl:Nat→CLL):Prop:=∀ n,cl (n+1) "settings"=runF 1 3 (b_settings (cl n))
noncomputable def b_is_shut (cl:CLL):CS :=
 (sSeq (sRet (cBin oEq (cBin oIx (cVar 1) (cBin oIx (cVar 0) (cCon (.int 2)))) (cBin oIx (cVar 0) (cCon (.int 3)))))
  sPass)
def Hs_is_shut (cl:Nat→CLL):Prop:=∀ n,cl (n+1) "is_shut"=runF 2 2 (b_is_shut (cl n))
noncomputable def places_from_l2 (cl:CLL):CS :=
 (sSeq (sIf (cBool (cBin oNe (cBin (oIn false) (cBin oIx (cVar 4) (cCon (.int 0))) (cVar 2)) (cBin (oIn false) (cBin oIx (cVar 4) (cCon (.int 1))) (cVar 2)))) (sSeq (sAsg (cCon (.bl true)) (gS (cVar 2) (cBin oIx (cVar 4) (cCon (.int 0)))))
  (sSeq (sAsg (cCon (.bl true)) (gS (cVar 2) (cBin oIx (cVar 4) (cCon (.int 1)))))
  (sSeq (sAsg (cCon (.bl true)) (gN 3))
  sPass))) sPass)
  sPass)
noncomputable def places_from_l1 (cl:CLL):CS :=
 (sSeq (sAsg (cCon (.bl false)) (gN 3))
  (sSeq (sFor (iSeq (cVar 1)) (gN 4) (places_from_l2 cl))
  sPass))
noncomputable def b_places_from (cl:CLL):CS :=
 (sSeq (sAsg (cDOne (cVar 0) (cCon (.bl true))) (gN 2))
  (sSeq (sAsg (cCon (.bl true)) (gN 3))
  (sSeq (whileS wfuel (cTru (cVar 3)) (places_from_l1 cl))
  (sSeq (sRet (cVar 2))
  sPass))))
def Hs_places_from (cl:Nat→CLL):Prop:=∀ n,cl (n+1) "places_from"=runF 2 5 (b_places_from (cl n))
noncomputable def b_joins (cl:CLL):CS :=
 (sSeq (sRet (cBin (oIn false) (cCon (.int 1)) (cApp (cl "places_from") (cArgs [(cCon (.int 0)),(cVar 0)]))))
  sPass)
def Hs_joins (cl:Nat→CLL):Prop:=∀ n,cl (n+1) "joins"=runF 1 1 (b_joins (cl n))
noncomputable def shut_contacts_t1 (cl:CLL):CT :=
 (cTru (cApp (cl "is_shut") (cArgs [(cVar 0),(cVar 1)])))
noncomputable def shut_contacts_e1 (cl:CLL):C :=
 (cVar 0)
noncomputable def b_shut_contacts (cl:CLL):CS :=
 (sSeq (sRet (cComp (iSeq (cBin oIx (cVar 0) (cCon (.int 2)))) 1 [1] .one (shut_contacts_t1 cl) (shut_contacts_e1 cl)))
  sPass)
def Hs_shut_contacts (cl:Nat→CLL):Prop:=∀ n,cl (n+1) "shut_contacts"=runF 2 2 (b_shut_contacts (cl n))
noncomputable def b_lets (cl:CLL):CS :=
 (sSeq (sRet (cApp (cl "joins") (cArgs [(cApp (cl "shut_contacts") (cArgs [(cVar 0),(cVar 1)]))])))
  sPass)
def Hs_lets (cl:Nat→CLL):Prop:=∀ n,cl (n+1) "lets"=runF 2 2 (b_lets (cl n))
noncomputable def is_function_e1 (cl:CLL):C :=
 (cApp (cl "is_bit") (cArgs [(cVar 0)]))
noncomputable def b_is_function (cl:CLL):CS :=
 (sSeq (sIf (cOrT (cNotT (cTru (cApp fInst (cArgs [(cVar 1),(cCon (.ty "tuple"))])))) (cBool (cBin oNe (cApp fLen (cArgs [(cVar 1)])) (cApp fLen (cArgs [(cApp (cl "settings") (cArgs [(cVar 0)]))]))))) (sSeq (sRet (cCon (.bl false)))
  sPass) sPass)
  (sSeq (sRet (cApp (fBools fun bs=>bs.all id) (cArgs [(cComp (iSeq (cVar 1)) 1 [] .one (fun _=>ret true) (is_function_e1 cl))])))
  sPass))
def Hs_is_function (cl:Nat→CLL):Prop:=∀ n,cl (n+1) "is_function"=runF 2 2 (b_is_function (cl n))
noncomputable def function_of_e1 (cl:CLL):C :=
 (cIf (cTru (cApp (cl "lets") (cArgs [(cVar 1),(cVar 0)]))) (cCon (.int 1)) (cCon (.int 0)))
noncomputable def b_function_of (cl:CLL):CS :=
 (sSeq (sRet (cApp fTuple (cArgs [(cComp (iSeq (cApp (cl "settings") (cArgs [(cBin oIx (cVar 0) (cCon (.int 0)))]))) 1 [0] .one (fun _=>ret true) (function_of_e1 cl))])))
  sPass)
def Hs_function_of (cl:Nat→CLL):Prop:=∀ n,cl (n+1) "function_of"=runF 1 1 (b_function_of (cl n))
noncomputable def b_switches_of (cl:CLL):CS :=
 (sSeq (sRet (cBin (oInt fun i j=>i - j) (cMeth0 "int" mBits (cApp fLen (cArgs [(cVar 0)]))) (cCon (.int 1))))
  sPass)
def Hs_switches_of (cl:Nat→CLL):Prop:=∀ n,cl (n+1) "switches_of"=runF 1 1 (b_switches_of (cl n))
noncomputable def where_both_e1 (cl:CLL):C :=
 (cBin (oInt Builtin.bitAnd) (cVar 0) (cVar 1))
noncomputable def b_where_both (cl:CLL):CS :=
 (sSeq (sRet (cApp fTuple (cArgs [(cComp (iZipL (cArgs [(cVar 0),(cVar 1)])) 2 [] (.many 2) (fun _=>ret true) (where_both_e1 cl))])))
  sPass)
def Hs_where_both (cl:Nat→CLL):Prop:=∀ n,cl (n+1) "where_both"=runF 2 2 (b_where_both (cl n))
noncomputable def where_either_e1 (cl:CLL):C :=
 (cBin (oInt Builtin.bitOr) (cVar 0) (cVar 1))
noncomputable def b_where_either (cl:CLL):CS :=
 (sSeq (sRet (cApp fTuple (cArgs [(cComp (iZipL (cArgs [(cVar 0),(cVar 1)])) 2 [] (.many 2) (fun _=>ret true) (where_either_e1 cl))])))
  sPass)
def Hs_where_either (cl:Nat→CLL):Prop:=∀ n,cl (n+1) "where_either"=runF 2 2 (b_where_either (cl n))
noncomputable def is_row_e1 (cl:CLL):C :=
 (cApp (cl "is_function") (cArgs [(cVar 1),(cVar 0)]))
noncomputable def b_is_row (cl:CLL):CS :=
 (sSeq (sIf (cOrT (cNotT (cTru (cApp fInst (cArgs [(cVar 2),(cCon (.ty "tuple"))])))) (cBool (cBin oNe (cApp fLen (cArgs [(cVar 2)])) (cVar 1)))) (sSeq (sRet (cCon (.bl false)))
  sPass) sPass)
  (sSeq (sRet (cApp (fBools fun bs=>bs.all id) (cArgs [(cComp (iSeq (cVar 2)) 1 [0] .one (fun _=>ret true) (is_row_e1 cl))])))
  sPass))
def Hs_is_row (cl:Nat→CLL):Prop:=∀ n,cl (n+1) "is_row"=runF 3 3 (b_is_row (cl n))
noncomputable def same_both_ways_l2 (cl:CLL):CS :=
 (sSeq (sIf (cBool (cBin oNe (cBin oIx (cBin oIx (cVar 0) (cVar 1)) (cVar 2)) (cBin oIx (cBin oIx (cVar 0) (cVar 2)) (cVar 1)))) (sSeq (sRet (cCon (.bl false)))
  sPass) sPass)
  sPass)
noncomputable def same_both_ways_l1 (cl:CLL):CS :=
 (sSeq (sFor (iRange1 (cArgs [(cVar 1)])) (gN 2) (same_both_ways_l2 cl))
  sPass)
noncomputable def b_same_both_ways (cl:CLL):CS :=
 (sSeq (sFor (iRange1 (cArgs [(cApp fLen (cArgs [(cVar 0)]))])) (gN 1) (same_both_ways_l1 cl))
  (sSeq (sRet (cCon (.bl true)))
  sPass))
def Hs_same_both_ways (cl:Nat→CLL):Prop:=∀ n,cl (n+1) "same_both_ways"=runF 1 3 (b_same_both_ways (cl n))
noncomputable def is_table_e1 (cl:CLL):C :=
 (cApp (fBools fun bs=>bs.all id) (cArgs [(cBin oIx (cVar 1) (cVar 0))]))
noncomputable def is_table_e2 (cl:CLL):C :=
 (cApp (cl "is_row") (cArgs [(cVar 1),(cApp fLen (cArgs [(cVar 2)])),(cVar 0)]))
noncomputable def b_is_table (cl:CLL):CS :=
 (sSeq (sIf (cOrT (cNotT (cTru (cApp fInst (cArgs [(cVar 1),(cCon (.ty "tuple"))])))) (cNotT (cBool (cChain (oCmp fun i j=>decide (i≤j)) (oCmp fun i j=>decide (i≤j)) (cCon (.int 2)) (cApp fLen (cArgs [(cVar 1)])) (cCon (.int 7)))))) (sSeq (sRet (cCon (.bl false)))
  sPass) sPass)
  (sSeq (sIf (cNotT (cTru (cApp (fBools fun bs=>bs.all id) (cArgs [(cComp (iSeq (cVar 1)) 1 [0,1] .one (fun _=>ret true) (is_table_e2 cl))])))) (sSeq (sRet (cCon (.bl false)))
  sPass) sPass)
  (sSeq (sRet (cAndV (cApp (fBools fun bs=>bs.all id) (cArgs [(cComp (iEnumT (cArgs [(cVar 1)])) 2 [] (.many 2) (fun _=>ret true) (is_table_e1 cl))])) (cApp (cl "same_both_ways") (cArgs [(cVar 1)]))))
  sPass)))
def Hs_is_table (cl:Nat→CLL):Prop:=∀ n,cl (n+1) "is_table"=runF 2 2 (b_is_table (cl n))
noncomputable def tied_t1 (cl:CLL):CT :=
 (cBool (cBin oEq (cSl oSl (cVar 0) cNoPart (cPart (cCon (.int 2)))) (cVar 1)))
noncomputable def tied_e1 (cl:CLL):C :=
 (cBin oAdd (cTup (cArgs [(cCon (.int 0)),(cCon (.int 1))])) (cSl oSl (cVar 0) (cPart (cCon (.int 2))) cNoPart))
noncomputable def b_tied (cl:CLL):CS :=
 (sSeq (sIf (cBool (cBin oEq (cVar 1) (cVar 2))) (sSeq (sRet (cBin oMul (cTup (cArgs [(cCon (.int 1))])) (cApp fLen (cArgs [(cApp (cl "settings") (cArgs [(cBin oIx (cVar 0) (cCon (.int 0)))]))]))))
  sPass) sPass)
  (sSeq (sAsg (cTup (cArgs [(cApp fMin (cArgs [(cVar 1),(cVar 2)])),(cApp fMax (cArgs [(cVar 1),(cVar 2)]))])) (gN 3))
  (sSeq (sAsg (cComp (iSeq (cBin oIx (cVar 0) (cCon (.int 2)))) 1 [3] .one (tied_t1 cl) (tied_e1 cl)) (gN 4))
  (sSeq (sRet (cApp (cl "function_of") (cArgs [(cTup (cArgs [(cBin oIx (cVar 0) (cCon (.int 0))),(cCon (.int 2)),(cApp fTuple (cArgs [(cVar 4)]))]))])))
  sPass))))
def Hs_tied (cl:Nat→CLL):Prop:=∀ n,cl (n+1) "tied"=runF 3 5 (b_tied (cl n))
noncomputable def tied_row_e1 (cl:CLL):C :=
 (cApp (cl "tied") (cArgs [(cVar 1),(cVar 2),(cVar 0)]))
noncomputable def b_tied_row (cl:CLL):CS :=
 (sSeq (sRet (cApp fTuple (cArgs [(cComp (iRange1 (cArgs [(cBin oIx (cVar 0) (cCon (.int 1)))])) 1 [0,1] .one (fun _=>ret true) (tied_row_e1 cl))])))
  sPass)
def Hs_tied_row (cl:Nat→CLL):Prop:=∀ n,cl (n+1) "tied_row"=runF 2 2 (b_tied_row (cl n))
noncomputable def table_of_e1 (cl:CLL):C :=
 (cApp (cl "tied_row") (cArgs [(cVar 1),(cVar 0)]))
noncomputable def b_table_of (cl:CLL):CS :=
 (sSeq (sRet (cApp fTuple (cArgs [(cComp (iRange1 (cArgs [(cBin oIx (cVar 0) (cCon (.int 1)))])) 1 [0] .one (fun _=>ret true) (table_of_e1 cl))])))
  sPass)
def Hs_table_of (cl:Nat→CLL):Prop:=∀ n,cl (n+1) "table_of"=runF 1 1 (b_table_of (cl n))
noncomputable def row_without_l1 (cl:CLL):CS :=
 (sSeq (sIf (cBool (cBin oNe (cVar 4) (cVar 2))) (sSeq (sAsg (cApp (cl "where_both") (cArgs [(cBin oIx (cBin oIx (cVar 0) (cVar 1)) (cVar 2)),(cBin oIx (cBin oIx (cVar 0) (cVar 2)) (cVar 4))])) (gN 5))
  (sSeq (sExpr (cMeth "list" (mList gAppend) (cVar 3) (cArgs [(cApp (cl "where_either") (cArgs [(cBin oIx (cBin oIx (cVar 0) (cVar 1)) (cVar 4)),(cVar 5)]))])))
  sPass)) sPass)
  sPass)
noncomputable def b_row_without (cl:CLL):CS :=
 (sSeq (sAsg (cLst (cArgs [])) (gN 3))
  (sSeq (sFor (iRange1 (cArgs [(cApp fLen (cArgs [(cVar 0)]))])) (gN 4) (row_without_l1 cl))
  (sSeq (sRet (cApp fTuple (cArgs [(cVar 3)])))
  sPass)))
def Hs_row_without (cl:Nat→CLL):Prop:=∀ n,cl (n+1) "row_without"=runF 3 6 (b_row_without (cl n))
noncomputable def taken_out_t1 (cl:CLL):CT :=
 (cBool (cBin oNe (cVar 0) (cVar 2)))
noncomputable def taken_out_e1 (cl:CLL):C :=
 (cApp (cl "row_without") (cArgs [(cVar 1),(cVar 0),(cVar 2)]))
noncomputable def b_taken_out (cl:CLL):CS :=
 (sSeq (sIf (cOrT (cNotT (cTru (cApp (cl "is_whole") (cArgs [(cVar 1)])))) (cNotT (cBool (cChain (oCmp fun i j=>decide (i≤j)) oLt (cCon (.int 2)) (cVar 1) (cApp fLen (cArgs [(cVar 0)])))))) (sSeq sBad
  sPass) sPass)
  (sSeq (sRet (cApp fTuple (cArgs [(cComp (iRange1 (cArgs [(cApp fLen (cArgs [(cVar 0)]))])) 1 [0,1] .one (taken_out_t1 cl) (taken_out_e1 cl))])))
  sPass))
def Hs_taken_out (cl:Nat→CLL):Prop:=∀ n,cl (n+1) "taken_out"=runF 2 2 (b_taken_out (cl n))
noncomputable def follows_e1 (cl:CLL):C :=
 (cBin oEq (cApp (cl "taken_out") (cArgs [(cVar 1),(cVar 0)])) (cVar 2))
noncomputable def b_follows (cl:CLL):CS :=
 (sSeq (sRet (cApp (fBools fun bs=>bs.any id) (cArgs [(cComp (iRange2 (cArgs [(cCon (.int 2)),(cApp fLen (cArgs [(cVar 0)]))])) 1 [0,1] .one (fun _=>ret true) (follows_e1 cl))])))
  sPass)
def Hs_follows (cl:Nat→CLL):Prop:=∀ n,cl (n+1) "follows"=runF 2 2 (b_follows (cl n))
noncomputable def is_taking_e1 (cl:CLL):C :=
 (cApp (cl "follows") (cArgs [(cVar 0),(cVar 1)]))
noncomputable def is_taking_e2 (cl:CLL):C :=
 (cApp (cl "is_table") (cArgs [(cVar 1),(cVar 0)]))
noncomputable def b_is_taking (cl:CLL):CS :=
 (sSeq (sIf (cOrT (cNotT (cTru (cApp fInst (cArgs [(cVar 1),(cCon (.ty "tuple"))])))) (cNotT (cTru (cVar 1)))) (sSeq (sRet (cCon (.bl false)))
  sPass) sPass)
  (sSeq (sAsg (cApp (cl "switches_of") (cArgs [(cBin oIx (cBin oIx (cVar 0) (cCon (.int 0))) (cCon (.int 0)))])) (gN 2))
  (sSeq (sIf (cNotT (cTru (cApp (fBools fun bs=>bs.all id) (cArgs [(cComp (iSeq (cVar 1)) 1 [2] .one (fun _=>ret true) (is_taking_e2 cl))])))) (sSeq (sRet (cCon (.bl false)))
  sPass) sPass)
  (sSeq (sIf (cOrT (cBool (cBin oNe (cBin oIx (cVar 1) (cCon (.int 0))) (cVar 0))) (cBool (cBin oNe (cApp fLen (cArgs [(cBin oIx (cVar 1) (cUn oNeg (cCon (.int 1))))])) (cCon (.int 2))))) (sSeq (sRet (cCon (.bl false)))
  sPass) sPass)
  (sSeq (sRet (cApp (fBools fun bs=>bs.all id) (cArgs [(cComp (iZipL (cArgs [(cVar 1),(cSl oSl (cVar 1) (cPart (cCon (.int 1))) cNoPart)])) 2 [] (.many 2) (fun _=>ret true) (is_taking_e1 cl))])))
  sPass)))))
def Hs_is_taking (cl:Nat→CLL):Prop:=∀ n,cl (n+1) "is_taking"=runF 2 3 (b_is_taking (cl n))
noncomputable def left_at_last_l1 (cl:CLL):CS :=
 (sSeq (sAsg (cApp (cl "taken_out") (cArgs [(cVar 1),(cCon (.int 2))])) (gN 1))
  sPass)
noncomputable def b_left_at_last (cl:CLL):CS :=
 (sSeq (sAsg (cVar 0) (gN 1))
  (sSeq (whileS wfuel (cBool (cBin (oCmp fun i j=>decide (j<i)) (cApp fLen (cArgs [(cVar 1)])) (cCon (.int 2)))) (left_at_last_l1 cl))
  (sSeq (sRet (cBin oIx (cBin oIx (cVar 1) (cCon (.int 0))) (cCon (.int 1))))
  sPass)))
def Hs_left_at_last (cl:Nat→CLL):Prop:=∀ n,cl (n+1) "left_at_last"=runF 1 2 (b_left_at_last (cl n))
noncomputable def through_some_place_l1 (cl:CLL):CS :=
 (sSeq (sAsg (cApp (cl "where_either") (cArgs [(cVar 2),(cApp (cl "where_both") (cArgs [(cVar 3),(cVar 4)]))])) (gN 2))
  sPass)
noncomputable def b_through_some_place (cl:CLL):CS :=
 (sSeq (sAsg (cBin oMul (cTup (cArgs [(cCon (.int 0))])) (cApp fLen (cArgs [(cBin oIx (cVar 0) (cCon (.int 0)))]))) (gN 2))
  (sSeq (sFor (iZipL (cArgs [(cVar 0),(cVar 1)])) (gT [(gN 3),(gN 4)]) (through_some_place_l1 cl))
  (sSeq (sRet (cVar 2))
  sPass)))
def Hs_through_some_place (cl:Nat→CLL):Prop:=∀ n,cl (n+1) "through_some_place"=runF 2 5 (b_through_some_place (cl n))
noncomputable def row_through_e1 (cl:CLL):C :=
 (cApp (cl "through_some_place") (cArgs [(cVar 1),(cVar 0)]))
noncomputable def b_row_through (cl:CLL):CS :=
 (sSeq (sRet (cApp fTuple (cArgs [(cComp (iSeq (cVar 1)) 1 [0] .one (fun _=>ret true) (row_through_e1 cl))])))
  sPass)
def Hs_row_through (cl:Nat→CLL):Prop:=∀ n,cl (n+1) "row_through"=runF 2 2 (b_row_through (cl n))
noncomputable def come_to_e1 (cl:CLL):C :=
 (cApp (cl "row_through") (cArgs [(cVar 0),(cVar 1)]))
noncomputable def b_come_to (cl:CLL):CS :=
 (sSeq (sAsg (cApp fTuple (cArgs [(cComp (iSeq (cVar 0)) 1 [1] .one (fun _=>ret true) (come_to_e1 cl))])) (gN 2))
  (sSeq (sIf (cNotT (cTru (cApp (cl "same_both_ways") (cArgs [(cVar 2)])))) (sSeq sBad
  sPass) sPass)
  (sSeq (sRet (cVar 2))
  sPass)))
def Hs_come_to (cl:Nat→CLL):Prop:=∀ n,cl (n+1) "come_to"=runF 2 3 (b_come_to (cl n))
noncomputable def closed_l1 (cl:CLL):CS :=
 (sSeq (sAsg (cVar 2) (gN 1))
  (sSeq (sAsg (cApp (cl "come_to") (cArgs [(cVar 1),(cVar 1)])) (gN 2))
  sPass))
noncomputable def b_closed (cl:CLL):CS :=
 (sSeq (sAsg (cVar 0) (gN 1))
  (sSeq (sAsg (cApp (cl "come_to") (cArgs [(cVar 1),(cVar 1)])) (gN 2))
  (sSeq (whileS wfuel (cBool (cBin oNe (cVar 2) (cVar 1))) (closed_l1 cl))
  (sSeq (sRet (cVar 1))
  sPass))))
def Hs_closed (cl:Nat→CLL):Prop:=∀ n,cl (n+1) "closed"=runF 1 3 (b_closed (cl n))
noncomputable def b_refuse_no_contact (cl:CLL):CS :=
 (sSeq (sIf (cOrT (cNotT (cTru (cApp (cl "is_whole") (cArgs [(cVar 1)])))) (cNotT (cBool (cChain (oCmp fun i j=>decide (i≤j)) oLt (cCon (.int 0)) (cVar 1) (cApp fLen (cArgs [(cBin oIx (cVar 0) (cCon (.int 2)))])))))) (sSeq sBad
  sPass) sPass)
  sPass)
def Hs_refuse_no_contact (cl:Nat→CLL):Prop:=∀ n,cl (n+1) "refuse_no_contact"=runF 2 2 (b_refuse_no_contact (cl n))
noncomputable def b_cut (cl:CLL):CS :=
 (sSeq (sExpr (cApp (cl "refuse_no_contact") (cArgs [(cVar 0),(cVar 1)])))
  (sSeq (sRet (cTup (cArgs [(cBin oIx (cVar 0) (cCon (.int 0))),(cBin oIx (cVar 0) (cCon (.int 1))),(cBin oAdd (cSl oSl (cBin oIx (cVar 0) (cCon (.int 2))) cNoPart (cPart (cVar 1))) (cSl oSl (cBin oIx (cVar 0) (cCon (.int 2))) (cPart (cBin oAdd (cVar 1) (cCon (.int 1)))) cNoPart))])))
  sPass))
def Hs_cut (cl:Nat→CLL):Prop:=∀ n,cl (n+1) "cut"=runF 2 2 (b_cut (cl n))
noncomputable def b_law_cell_at (cl:CLL):CS :=
 (sSeq (sIf (cBool (cBin oLt (cVar 1) (cApp fLen (cArgs [(cVar 0)])))) (sSeq (sRet (cBin oIx (cVar 0) (cVar 1)))
  sPass) sPass)
  (sSeq (sRet (cCon (.int 0)))
  sPass))
def Hs_law_cell_at (cl:Nat→CLL):Prop:=∀ n,cl (n+1) "_law_cell_at"=runF 2 2 (b_law_cell_at (cl n))
noncomputable def b_law_state (cl:CLL):CS :=
 (sSeq (sAsg (cApp (cl "_law_cell_at") (cArgs [(cVar 0),(cVar 1)])) (gN 2))
  (sSeq (sIf (cBool (cBin (oCmp fun i j=>decide (j≤i)) (cVar 2) (cBin oPow (cCon (.int 10)) (cCon (.int 18))))) (sSeq (sRet (cLst (cArgs [(cBin (oInt fun i j=>i - j) (cVar 2) (cBin oPow (cCon (.int 10)) (cCon (.int 18)))),(cCon (.bl true))])))
  sPass) sPass)
  (sSeq (sRet (cLst (cArgs [(cBin oMod (cVar 2) (cCon (.int 2147483647))),(cCon (.bl false))])))
  sPass)))
def Hs_law_state (cl:Nat→CLL):Prop:=∀ n,cl (n+1) "_law_state"=runF 2 3 (b_law_state (cl n))
noncomputable def b_law_take (cl:CLL):CS :=
 (sSeq (sIf (cTru (cBin oIx (cVar 0) (cCon (.int 1)))) (sSeq (sAsg (cBin oMod (cBin oIx (cVar 0) (cCon (.int 0))) (cVar 1)) (gN 2))
  (sSeq (sAsg (cBin oDiv (cBin oIx (cVar 0) (cCon (.int 0))) (cVar 1)) (gS (cVar 0) (cCon (.int 0))))
  (sSeq (sRet (cVar 2))
  sPass))) sPass)
  (sSeq (sAsg (cBin oMod (cBin oAdd (cBin oMul (cBin oIx (cVar 0) (cCon (.int 0))) (cCon (.int 48271))) (cCon (.int 29))) (cCon (.int 2147483647))) (gS (cVar 0) (cCon (.int 0))))
  (sSeq (sAsg (cBin oMod (cBin oAdd (cBin oAdd (cBin oMul (cBin oIx (cVar 0) (cCon (.int 0))) (cBin oIx (cVar 0) (cCon (.int 0)))) (cBin oMul (cCon (.int 39373)) (cBin oIx (cVar 0) (cCon (.int 0))))) (cCon (.int 7))) (cCon (.int 2147483629))) (gN 3))
  (sSeq (sAsg (cBin oMod (cBin oAdd (cBin oMul (cVar 3) (cVar 3)) (cBin oMul (cCon (.int 16807)) (cVar 3))) (cCon (.int 2147483587))) (gN 3))
  (sSeq (sRet (cBin oMod (cBin oDiv (cVar 3) (cCon (.int 8))) (cVar 1)))
  sPass)))))
def Hs_law_take (cl:Nat→CLL):Prop:=∀ n,cl (n+1) "_law_take"=runF 2 4 (b_law_take (cl n))
noncomputable def b_law_ends (cl:CLL):CS :=
 (sSeq (sAsg (cBin oAdd (cBin oAdd (cLst (cArgs [(cCon (.int 0))])) (cApp fListR (cArgs [(cCon (.int 2)),(cVar 1)]))) (cLst (cArgs [(cCon (.int 1))]))) (gN 2))
  (sSeq (sAsg (cApp (cl "_law_take") (cArgs [(cVar 0),(cBin (oInt fun i j=>i - j) (cVar 1) (cCon (.int 1)))])) (gN 3))
  (sSeq (sAsg (cBin oAdd (cVar 3) (cCon (.int 1))) (gN 4))
  (sSeq (sIf (cBool (cBin oEq (cApp (cl "_law_take") (cArgs [(cVar 0),(cCon (.int 3))])) (cCon (.int 0)))) (sSeq (sAsg (cBin oAdd (cBin oAdd (cVar 3) (cCon (.int 1))) (cApp (cl "_law_take") (cArgs [(cVar 0),(cBin (oInt fun i j=>i - j) (cBin (oInt fun i j=>i - j) (cVar 1) (cCon (.int 1))) (cVar 3))]))) (gN 4))
  sPass) sPass)
  (sSeq (sRet (cTup (cArgs [(cApp fMin (cArgs [(cBin oIx (cVar 2) (cVar 3)),(cBin oIx (cVar 2) (cVar 4))])),(cApp fMax (cArgs [(cBin oIx (cVar 2) (cVar 3)),(cBin oIx (cVar 2) (cVar 4))]))])))
  sPass)))))
def Hs_law_ends (cl:Nat→CLL):Prop:=∀ n,cl (n+1) "_law_ends"=runF 2 5 (b_law_ends (cl n))
noncomputable def law_net_l1 (cl:CLL):CS :=
 (sSeq (sExpr (cMeth "list" (mList gInsert) (cVar 11) (cArgs [(cApp (cl "_law_take") (cArgs [(cVar 0),(cBin oAdd (cApp fLen (cArgs [(cVar 11)])) (cCon (.int 1)))])),(cVar 12)])))
  sPass)
noncomputable def law_net_l2 (cl:CLL):CS :=
 (sSeq (sExpr (cMeth "list" (mList gAppend) (cVar 6) (cArgs [(cBin oAdd (cApp (cl "_law_ends") (cArgs [(cVar 0),(cVar 5)])) (cTup (cArgs [(cApp (cl "_law_take") (cArgs [(cVar 0),(cVar 4)])),(cApp (cl "_law_take") (cArgs [(cVar 0),(cCon (.int 2))]))])))])))
  sPass)
noncomputable def law_net_l3 (cl:CLL):CS :=
 (sSeq (sExpr (cMeth "list" (mList gAppend) (cVar 6) (cArgs [(cTup (cArgs [(cApp fMin (cArgs [(cVar 8),(cVar 9)])),(cApp fMax (cArgs [(cVar 8),(cVar 9)])),(cApp (cl "_law_take") (cArgs [(cVar 0),(cVar 4)])),(cApp (cl "_law_take") (cArgs [(cVar 0),(cCon (.int 2))]))]))])))
  sPass)
noncomputable def b_law_net (cl:CLL):CS :=
 (sSeq (sAsg (cBin oAdd (cCon (.int 1)) (cApp (cl "_law_take") (cArgs [(cVar 0),(cVar 1)]))) (gN 4))
  (sSeq (sAsg (cBin oAdd (cCon (.int 2)) (cApp (cl "_law_take") (cArgs [(cVar 0),(cBin (oInt fun i j=>i - j) (cVar 2) (cCon (.int 1)))]))) (gN 5))
  (sSeq (sAsg (cLst (cArgs [])) (gN 6))
  (sSeq (sAsg (cBin oAdd (cBin oAdd (cLst (cArgs [(cCon (.int 0))])) (cApp fListR (cArgs [(cCon (.int 2)),(cVar 5)]))) (cLst (cArgs [(cCon (.int 1))]))) (gN 7))
  (sSeq (sIf (cAndT (cBool (cBin oEq (cApp (cl "_law_take") (cArgs [(cVar 0),(cCon (.int 2))])) (cCon (.int 0)))) (cBool (cBin (oCmp fun i j=>decide (i≤j)) (cBin (oInt fun i j=>i - j) (cVar 5) (cCon (.int 1))) (cVar 3)))) (sSeq (sFor (iZipL (cArgs [(cVar 7),(cSl oSl (cVar 7) (cPart (cCon (.int 1))) cNoPart)])) (gT [(gN 8),(gN 9)]) (law_net_l3 cl))
  sPass) sPass)
  (sSeq (sFor (iRange1 (cArgs [(cApp (cl "_law_take") (cArgs [(cVar 0),(cBin oAdd (cBin (oInt fun i j=>i - j) (cVar 3) (cApp fLen (cArgs [(cVar 6)]))) (cCon (.int 1)))]))])) (gN 10) (law_net_l2 cl))
  (sSeq (sAsg (cLst (cArgs [])) (gN 11))
  (sSeq (sFor (iSeq (cVar 6)) (gN 12) (law_net_l1 cl))
  (sSeq (sRet (cTup (cArgs [(cVar 4),(cVar 5),(cApp fTuple (cArgs [(cVar 11)]))])))
  sPass)))))))))
def Hs_law_net (cl:Nat→CLL):Prop:=∀ n,cl (n+1) "_law_net"=runF 4 13 (b_law_net (cl n))
noncomputable def law_out_right_e1 (cl:CLL):C :=
 (cApp (cl "is_table") (cArgs [(cBin oIx (cVar 1) (cCon (.int 0))),(cVar 0)]))
noncomputable def law_out_right_l1 (cl:CLL):CS :=
 (sSeq (sExpr (cMeth "list" (mList gAppend) (cVar 3) (cArgs [(cApp (cl "taken_out") (cArgs [(cBin oIx (cVar 3) (cUn oNeg (cCon (.int 1)))),(cBin oAdd (cCon (.int 2)) (cApp (cl "_law_take") (cArgs [(cVar 0),(cBin (oInt fun i j=>i - j) (cApp fLen (cArgs [(cBin oIx (cVar 3) (cUn oNeg (cCon (.int 1))))])) (cCon (.int 2)))])))]))])))
  sPass)
noncomputable def b_law_out_right (cl:CLL):CS :=
 (sSeq (sAsg (cLst (cArgs [(cVar 2)])) (gN 3))
  (sSeq (whileS wfuel (cBool (cBin (oCmp fun i j=>decide (j<i)) (cApp fLen (cArgs [(cBin oIx (cVar 3) (cUn oNeg (cCon (.int 1))))])) (cCon (.int 2)))) (law_out_right_l1 cl))
  (sSeq (sIf (cOrT (cBool (cBin oNe (cBin oIx (cBin oIx (cBin oIx (cVar 3) (cUn oNeg (cCon (.int 1)))) (cCon (.int 0))) (cCon (.int 1))) (cApp (cl "function_of") (cArgs [(cVar 1)])))) (cBool (cBin oNe (cApp (cl "left_at_last") (cArgs [(cVar 2)])) (cApp (cl "function_of") (cArgs [(cVar 1)]))))) (sSeq (sRet (cCon (.bl false)))
  sPass) sPass)
  (sSeq (sRet (cAndV (cBin oIs (cApp (cl "is_taking") (cArgs [(cVar 2),(cApp fTuple (cArgs [(cVar 3)]))])) (cCon (.bl true))) (cApp (fBools fun bs=>bs.all id) (cArgs [(cComp (iSeq (cVar 3)) 1 [1] .one (fun _=>ret true) (law_out_right_e1 cl))]))))
  sPass))))
def Hs_law_out_right (cl:Nat→CLL):Prop:=∀ n,cl (n+1) "_law_out_right"=runF 3 4 (b_law_out_right (cl n))
noncomputable def law_closed_right_v2_e2 (cl:CLL):C :=
 (cBin oIx (cBin oIx (cVar 1) (cVar 2)) (cVar 0))
noncomputable def law_closed_right_v2_e1 (cl:CLL):C :=
 (cApp fTuple (cArgs [(cComp (iSeq (cVar 1)) 1 [2,0] .one (fun _=>ret true) (law_closed_right_v2_e2 cl))]))
noncomputable def law_closed_right_v2_t3 (cl:CLL):CT :=
 (cBool (cBin oNe (cVar 0) (cVar 1)))
noncomputable def law_closed_right_v2_e3 (cl:CLL):C :=
 (cVar 0)
noncomputable def law_closed_right_v2_l1 (cl:CLL):CS :=
 (sSeq (sAsg (cComp (iRange1 (cArgs [(cBin oIx (cVar 0) (cCon (.int 1)))])) 1 [3] .one (law_closed_right_v2_t3 cl) (law_closed_right_v2_e3 cl)) (gN 4))
  (sSeq (sIf (cBool (cBin oNe (cApp (cl "taken_out") (cArgs [(cVar 2),(cVar 3)])) (cApp fTuple (cArgs [(cComp (iSeq (cVar 4)) 1 [4,2] .one (fun _=>ret true) (law_closed_right_v2_e1 cl))])))) (sSeq (sRet (cCon (.bl false)))
  sPass) sPass)
  (sSeq (sIf (cBool (cBin oNe (cApp (cl "closed") (cArgs [(cApp (cl "taken_out") (cArgs [(cVar 1),(cVar 3)]))])) (cApp (cl "taken_out") (cArgs [(cVar 2),(cVar 3)])))) (sSeq (sRet (cCon (.bl false)))
  sPass) sPass)
  sPass)))
noncomputable def b_law_closed_right_v2 (cl:CLL):CS :=
 (sSeq (sAsg (cApp (cl "closed") (cArgs [(cVar 1)])) (gN 2))
  (sSeq (sIf (cOrT (cBool (cBin oNe (cBin oIx (cBin oIx (cVar 2) (cCon (.int 0))) (cCon (.int 1))) (cApp (cl "function_of") (cArgs [(cVar 0)])))) (cOrT (cBool (cBin oNe (cApp (cl "closed") (cArgs [(cVar 2)])) (cVar 2))) (cBool (cBin oNe (cApp (cl "come_to") (cArgs [(cVar 2),(cVar 1)])) (cVar 2))))) (sSeq (sRet (cCon (.bl false)))
  sPass) sPass)
  (sSeq (sFor (iRange2 (cArgs [(cCon (.int 2)),(cBin oIx (cVar 0) (cCon (.int 1)))])) (gN 3) (law_closed_right_v2_l1 cl))
  (sSeq (sRet (cCon (.bl true)))
  sPass))))
def Hs_law_closed_right_v2 (cl:Nat→CLL):Prop:=∀ n,cl (n+1) "_law_closed_right"=runF 2 5 (b_law_closed_right_v2 (cl n))
noncomputable def law_v26_e2 (cl:CLL):C :=
 (cBin (oCmp fun i j=>decide (j≤i)) (cVar 0) (cVar 1))
noncomputable def law_v26_e1 (cl:CLL):C :=
 (cApp (fBools fun bs=>bs.all id) (cArgs [(cComp (iZipL (cArgs [(cVar 0),(cVar 1)])) 2 [] (.many 2) (fun _=>ret true) (law_v26_e2 cl))]))
noncomputable def law_v26_l2 (cl:CLL):CS :=
 (sSeq (sIf (cNotT (cTru (cApp (fBools fun bs=>bs.all id) (cArgs [(cComp (iZipL (cArgs [(cVar 6),(cVar 7)])) 2 [] (.many 2) (fun _=>ret true) (law_v26_e1 cl))])))) (sSeq (sRet (cCon (.bl false)))
  sPass) sPass)
  sPass)
noncomputable def law_v26_l1 (cl:CLL):CS :=
 (sSeq (sAsg (cApp (cl "_law_state") (cArgs [(cVar 0),(cVar 1)])) (gN 2))
  (sSeq (sAsg (cApp (cl "_law_net") (cArgs [(cVar 2),(cCon (.int 4)),(cCon (.int 7)),(cBin oIx (cLst (cArgs [(cCon (.int 5)),(cCon (.int 8)),(cCon (.int 12))])) (cApp (cl "_law_take") (cArgs [(cVar 2),(cCon (.int 3))])))])) (gN 3))
  (sSeq (sAsg (cApp (cl "table_of") (cArgs [(cVar 3)])) (gN 4))
  (sSeq (sIf (cOrT (cNotT (cTru (cApp (cl "_law_out_right") (cArgs [(cVar 2),(cVar 3),(cVar 4)])))) (cNotT (cTru (cApp (cl "_law_out_right") (cArgs [(cVar 2),(cVar 3),(cApp (cl "closed") (cArgs [(cVar 4)]))]))))) (sSeq (sRet (cCon (.bl false)))
  sPass) sPass)
  (sSeq (sIf (cNotT (cTru (cApp (cl "_law_closed_right") (cArgs [(cVar 3),(cVar 4)])))) (sSeq (sRet (cCon (.bl false)))
  sPass) sPass)
  (sSeq (sIf (cBool (cBin oNe (cBin oIx (cVar 3) (cCon (.int 2))) (cTup (cArgs [])))) (sSeq (sAsg (cApp (cl "closed") (cArgs [(cApp (cl "table_of") (cArgs [(cApp (cl "cut") (cArgs [(cVar 3),(cApp (cl "_law_take") (cArgs [(cVar 2),(cApp fLen (cArgs [(cBin oIx (cVar 3) (cCon (.int 2)))]))]))]))]))])) (gN 5))
  (sSeq (sFor (iZipL (cArgs [(cApp (cl "closed") (cArgs [(cVar 4)])),(cVar 5)])) (gT [(gN 6),(gN 7)]) (law_v26_l2 cl))
  sPass)) sPass)
  sPass))))))
noncomputable def b_law_v26 (cl:CLL):CS :=
 (sSeq (sFor (iRange1 (cArgs [(cApp fMax (cArgs [(cCon (.int 1)),(cApp fMin (cArgs [(cApp fLen (cArgs [(cVar 0)])),(cCon (.int 6))]))]))])) (gN 1) (law_v26_l1 cl))
  (sSeq (sRet (cCon (.bl true)))
  sPass))
def Hs_law_v26 (cl:Nat→CLL):Prop:=∀ n,cl (n+1) "law"=runF 1 8 (b_law_v26 (cl n))
noncomputable def law_shut_t1 (cl:CLL):CT :=
 (cBool (cBin oEq (cBin oIx (cVar 2) (cBin oIx (cVar 1) (cCon (.int 2)))) (cBin oIx (cVar 1) (cCon (.int 3)))))
noncomputable def law_shut_e1 (cl:CLL):C :=
 (cVar 0)
noncomputable def b_law_shut (cl:CLL):CS :=
 (sSeq (sRet (cComp (iEnumT (cArgs [(cBin oIx (cVar 0) (cCon (.int 2)))])) 2 [1] (.many 2) (law_shut_t1 cl) (law_shut_e1 cl)))
  sPass)
def Hs_law_shut (cl:Nat→CLL):Prop:=∀ n,cl (n+1) "_law_shut"=runF 2 2 (b_law_shut (cl n))
noncomputable def law_marks_l2 (cl:CLL):CS :=
 (sSeq (sAsg (cSl oSl (cBin oIx (cBin oIx (cVar 0) (cCon (.int 2))) (cVar 4)) cNoPart (cPart (cCon (.int 2)))) (gT [(gN 5),(gN 6)]))
  (sSeq (sAsg (cApp fMin (cArgs [(cBin oIx (cVar 2) (cVar 5)),(cBin oIx (cVar 2) (cVar 6))])) (gN 7))
  (sSeq (sAsg (cVar 7) (gS (cVar 2) (cVar 5)))
  (sSeq (sAsg (cVar 7) (gS (cVar 2) (cVar 6)))
  sPass))))
noncomputable def law_marks_l1 (cl:CLL):CS :=
 (sSeq (sFor (iSeq (cVar 1)) (gN 4) (law_marks_l2 cl))
  sPass)
noncomputable def b_law_marks (cl:CLL):CS :=
 (sSeq (sAsg (cApp fListR (cArgs [(cBin oIx (cVar 0) (cCon (.int 1)))])) (gN 2))
  (sSeq (sFor (iRange1 (cArgs [(cBin oIx (cVar 0) (cCon (.int 1)))])) (gN 3) (law_marks_l1 cl))
  (sSeq (sRet (cVar 2))
  sPass)))
def Hs_law_marks (cl:Nat→CLL):Prop:=∀ n,cl (n+1) "_law_marks"=runF 2 8 (b_law_marks (cl n))
noncomputable def b_law_lets (cl:CLL):CS :=
 (sSeq (sRet (cBin oEq (cBin oIx (cApp (cl "_law_marks") (cArgs [(cVar 0),(cApp (cl "_law_shut") (cArgs [(cVar 0),(cVar 1)]))])) (cCon (.int 1))) (cCon (.int 0))))
  sPass)
def Hs_law_lets (cl:Nat→CLL):Prop:=∀ n,cl (n+1) "_law_lets"=runF 2 2 (b_law_lets (cl n))
noncomputable def law_settings_e1 (cl:CLL):C :=
 (cBin (oInt Builtin.bitAnd) (cBin oShr (cVar 1) (cBin (oInt fun i j=>i - j) (cBin (oInt fun i j=>i - j) (cVar 2) (cCon (.int 1))) (cVar 0))) (cCon (.int 1)))
noncomputable def law_settings_l1 (cl:CLL):CS :=
 (sSeq (sExpr (cMeth "list" (mList gAppend) (cVar 1) (cArgs [(cApp fTuple (cArgs [(cComp (iRange1 (cArgs [(cVar 0)])) 1 [2,0] .one (fun _=>ret true) (law_settings_e1 cl))]))])))
  sPass)
noncomputable def b_law_settings (cl:CLL):CS :=
 (sSeq (sAsg (cLst (cArgs [])) (gN 1))
  (sSeq (sFor (iRange1 (cArgs [(cBin oShl (cCon (.int 1)) (cVar 0))])) (gN 2) (law_settings_l1 cl))
  (sSeq (sRet (cVar 1))
  sPass)))
def Hs_law_settings (cl:Nat→CLL):Prop:=∀ n,cl (n+1) "_law_settings"=runF 1 3 (b_law_settings (cl n))
noncomputable def law_function_e1 (cl:CLL):C :=
 (cApp fInt (cArgs [(cApp (cl "_law_lets") (cArgs [(cVar 1),(cVar 0)]))]))
noncomputable def b_law_function (cl:CLL):CS :=
 (sSeq (sRet (cApp fTuple (cArgs [(cComp (iSeq (cApp (cl "_law_settings") (cArgs [(cBin oIx (cVar 0) (cCon (.int 0)))]))) 1 [0] .one (fun _=>ret true) (law_function_e1 cl))])))
  sPass)
def Hs_law_function (cl:Nat→CLL):Prop:=∀ n,cl (n+1) "_law_function"=runF 1 1 (b_law_function (cl n))
noncomputable def first_unlike_l1 (cl:CLL):CS :=
 (sSeq (sIf (cBool (cBin oNe (cVar 3) (cVar 4))) (sSeq (sRet (cVar 2))
  sPass) sPass)
  sPass)
noncomputable def b_first_unlike (cl:CLL):CS :=
 (sSeq (sFor (iZip3L (cArgs [(cApp (cl "settings") (cArgs [(cBin oIx (cVar 0) (cCon (.int 0)))])),(cApp (cl "function_of") (cArgs [(cVar 0)])),(cApp (cl "function_of") (cArgs [(cVar 1)]))])) (gT [(gN 2),(gN 3),(gN 4)]) (first_unlike_l1 cl))
  (sSeq (sRet (cCon .non))
  sPass))
def Hs_first_unlike (cl:Nat→CLL):Prop:=∀ n,cl (n+1) "first_unlike"=runF 2 5 (b_first_unlike (cl n))
noncomputable def b_are_alike (cl:CLL):CS :=
 (sSeq (sRet (cBin oIs (cApp (cl "first_unlike") (cArgs [(cVar 0),(cVar 1)])) (cCon .non)))
  sPass)
def Hs_are_alike (cl:Nat→CLL):Prop:=∀ n,cl (n+1) "are_alike"=runF 2 2 (b_are_alike (cl n))
noncomputable def b_is_idle (cl:CLL):CS :=
 (sSeq (sRet (cApp (cl "are_alike") (cArgs [(cApp (cl "cut") (cArgs [(cVar 0),(cVar 1)])),(cVar 0)])))
  sPass)
def Hs_is_idle (cl:Nat→CLL):Prop:=∀ n,cl (n+1) "is_idle"=runF 2 2 (b_is_idle (cl n))
noncomputable def idle_t1 (cl:CLL):CT :=
 (cTru (cApp (cl "is_idle") (cArgs [(cVar 1),(cVar 0)])))
noncomputable def idle_e1 (cl:CLL):C :=
 (cVar 0)
noncomputable def b_idle (cl:CLL):CS :=
 (sSeq (sRet (cApp fTuple (cArgs [(cComp (iRange1 (cArgs [(cApp fLen (cArgs [(cBin oIx (cVar 0) (cCon (.int 2)))]))])) 1 [0] .one (idle_t1 cl) (idle_e1 cl))])))
  sPass)
def Hs_idle (cl:Nat→CLL):Prop:=∀ n,cl (n+1) "idle"=runF 1 1 (b_idle (cl n))
noncomputable def b_law_same (cl:CLL):CS :=
 (sSeq (sRet (cBin oEq (cApp fRepr (cArgs [(cVar 0)])) (cApp fRepr (cArgs [(cVar 1)]))))
  sPass)
def Hs_law_same (cl:Nat→CLL):Prop:=∀ n,cl (n+1) "_law_same"=runF 2 2 (b_law_same (cl n))
noncomputable def b_law_whole (cl:CLL):CS :=
 (sSeq (sRet (cAndV (cApp fInst (cArgs [(cVar 0),(cCon (.ty "int"))])) (cAndV (cNotV (cApp fInst (cArgs [(cVar 0),(cCon (.ty "bool"))]))) (cChain (oCmp fun i j=>decide (i≤j)) oLt (cVar 1) (cVar 0) (cVar 2)))))
  sPass)
def Hs_law_whole (cl:Nat→CLL):Prop:=∀ n,cl (n+1) "_law_whole"=runF 3 3 (b_law_whole (cl n))
noncomputable def b_law_odd_v3 (cl:CLL):CS :=
 (sSeq (sAsg (cLst (cArgs [(cCon .non),(cCon (.bl true)),(cCon (.bl false)),(cUn oNeg (cCon (.int 1))),(cCon (.str (Str.ofString ""))),(cCon (.str (Str.ofString "at"))),(cTup (cArgs [])),(cLst (cArgs [])),(cTup (cArgs [(cCon (.bl true))])),(cLst (cArgs [(cCon (.int 0))])),(cDOne (cCon (.int 0)) (cCon (.int 1))),(cTup (cArgs [(cCon .non)])),(cTup (cArgs [(cUn oNeg (cCon (.int 1)))])),(cTup (cArgs [(cCon (.str (Str.ofString "at")))])),(cBin oPow (cCon (.int 10)) (cCon (.int 29))),(cTup (cArgs [(cCon (.int 0)),(cCon (.int 0))]))])) (gN 1))
  (sSeq (sRet (cBin oIx (cVar 1) (cApp (cl "_law_take") (cArgs [(cVar 0),(cCon (.int 16))]))))
  sPass))
def Hs_law_odd_v3 (cl:Nat→CLL):Prop:=∀ n,cl (n+1) "_law_odd"=runF 1 2 (b_law_odd_v3 (cl n))
noncomputable def law_is_table_t1 (cl:CLL):CT :=
 (cBool (cBin oNe (cBin oIx (cBin oIx (cVar 1) (cVar 2)) (cVar 0)) (cBin oIx (cBin oIx (cVar 1) (cVar 0)) (cVar 2))))
noncomputable def law_is_table_e1 (cl:CLL):C :=
 (cVar 0)
noncomputable def law_is_table_l1 (cl:CLL):CS :=
 (sSeq (sIf (cBool (cBin (oIn false) (cCon (.int 0)) (cBin oIx (cBin oIx (cVar 1) (cVar 4)) (cVar 4)))) (sSeq (sRet (cCon (.bl false)))
  sPass) sPass)
  (sSeq (sIf (cBool (cBin oNe (cComp (iRange1 (cArgs [(cVar 4)])) 1 [1,4] .one (law_is_table_t1 cl) (law_is_table_e1 cl)) (cLst (cArgs [])))) (sSeq (sRet (cCon (.bl false)))
  sPass) sPass)
  sPass))
noncomputable def law_is_table_e2 (cl:CLL):C :=
 (cApp (cl "_law_whole") (cArgs [(cVar 0),(cCon (.int 0)),(cCon (.int 2))]))
noncomputable def law_is_table_l3 (cl:CLL):CS :=
 (sSeq (sIf (cOrT (cNotT (cTru (cApp fInst (cArgs [(cVar 3),(cCon (.ty "tuple"))])))) (cBool (cBin oNe (cApp fLen (cArgs [(cVar 3)])) (cBin oShl (cCon (.int 1)) (cVar 0))))) (sSeq (sRet (cCon (.bl false)))
  sPass) sPass)
  (sSeq (sIf (cNotT (cTru (cApp (fBools fun bs=>bs.all id) (cArgs [(cComp (iSeq (cVar 3)) 1 [] .one (fun _=>ret true) (law_is_table_e2 cl))])))) (sSeq (sRet (cCon (.bl false)))
  sPass) sPass)
  sPass))
noncomputable def law_is_table_l2 (cl:CLL):CS :=
 (sSeq (sIf (cOrT (cNotT (cTru (cApp fInst (cArgs [(cVar 2),(cCon (.ty "tuple"))])))) (cBool (cBin oNe (cApp fLen (cArgs [(cVar 2)])) (cApp fLen (cArgs [(cVar 1)]))))) (sSeq (sRet (cCon (.bl false)))
  sPass) sPass)
  (sSeq (sFor (iSeq (cVar 2)) (gN 3) (law_is_table_l3 cl))
  sPass))
noncomputable def b_law_is_table (cl:CLL):CS :=
 (sSeq (sIf (cOrT (cNotT (cTru (cApp fInst (cArgs [(cVar 1),(cCon (.ty "tuple"))])))) (cNotT (cBool (cChain (oCmp fun i j=>decide (i≤j)) (oCmp fun i j=>decide (i≤j)) (cCon (.int 2)) (cApp fLen (cArgs [(cVar 1)])) (cCon (.int 7)))))) (sSeq (sRet (cCon (.bl false)))
  sPass) sPass)
  (sSeq (sFor (iSeq (cVar 1)) (gN 2) (law_is_table_l2 cl))
  (sSeq (sFor (iRange1 (cArgs [(cApp fLen (cArgs [(cVar 1)]))])) (gN 4) (law_is_table_l1 cl))
  (sSeq (sRet (cCon (.bl true)))
  sPass))))
def Hs_law_is_table (cl:Nat→CLL):Prop:=∀ n,cl (n+1) "_law_is_table"=runF 2 5 (b_law_is_table (cl n))
noncomputable def law_table_e1 (cl:CLL):C :=
 (cApp fTuple (cArgs [(cVar 0)]))
noncomputable def law_table_e2 (cl:CLL):C :=
 (cApp fInt (cArgs [(cBin (oCmp fun i j=>decide (j<i)) (cApp (cl "_law_take") (cArgs [(cVar 1),(cCon (.int 5))])) (cCon (.int 2)))]))
noncomputable def law_table_l2 (cl:CLL):CS :=
 (sSeq (sAsg (cApp fTuple (cArgs [(cComp (iRange1 (cArgs [(cVar 3)])) 1 [0] .one (fun _=>ret true) (law_table_e2 cl))])) (gS (cBin oIx (cVar 4) (cVar 5)) (cVar 6)))
  (sSeq (sAsg (cBin oIx (cBin oIx (cVar 4) (cVar 5)) (cVar 6)) (gS (cBin oIx (cVar 4) (cVar 6)) (cVar 5)))
  sPass))
noncomputable def law_table_l1 (cl:CLL):CS :=
 (sSeq (sFor (iRange1 (cArgs [(cVar 5)])) (gN 6) (law_table_l2 cl))
  sPass)
noncomputable def law_table_e4 (cl:CLL):C :=
 (cBin oMul (cTup (cArgs [(cCon (.int 1))])) (cVar 1))
noncomputable def law_table_e3 (cl:CLL):C :=
 (cComp (iRange1 (cArgs [(cVar 1)])) 1 [2] .one (fun _=>ret true) (law_table_e4 cl))
noncomputable def b_law_table (cl:CLL):CS :=
 (sSeq (sAsg (cBin oShl (cCon (.int 1)) (cVar 1)) (gN 3))
  (sSeq (sAsg (cComp (iRange1 (cArgs [(cVar 2)])) 1 [2,3] .one (fun _=>ret true) (law_table_e3 cl)) (gN 4))
  (sSeq (sFor (iRange1 (cArgs [(cVar 2)])) (gN 5) (law_table_l1 cl))
  (sSeq (sRet (cApp fTuple (cArgs [(cComp (iSeq (cVar 4)) 1 [] .one (fun _=>ret true) (law_table_e1 cl))])))
  sPass))))
def Hs_law_table (cl:Nat→CLL):Prop:=∀ n,cl (n+1) "_law_table"=runF 3 7 (b_law_table (cl n))
noncomputable def law_either_e1 (cl:CLL):C :=
 (cApp fInt (cArgs [(cBin (oCmp fun i j=>decide (j<i)) (cBin oAdd (cVar 0) (cVar 1)) (cCon (.int 0)))]))
noncomputable def b_law_either (cl:CLL):CS :=
 (sSeq (sRet (cApp fTuple (cArgs [(cComp (iZipL (cArgs [(cVar 0),(cVar 1)])) 2 [] (.many 2) (fun _=>ret true) (law_either_e1 cl))])))
  sPass)
def Hs_law_either (cl:Nat→CLL):Prop:=∀ n,cl (n+1) "_law_either"=runF 2 2 (b_law_either (cl n))
noncomputable def law_direct_e1 (cl:CLL):C :=
 (cApp fTuple (cArgs [(cVar 0)]))
noncomputable def law_direct_e2 (cl:CLL):C :=
 (cApp fInt (cArgs [(cBin oEq (cBin oIx (cVar 0) (cVar 1)) (cVar 2))]))
noncomputable def law_direct_l1 (cl:CLL):CS :=
 (sSeq (sAsg (cApp fTuple (cArgs [(cComp (iSeq (cApp (cl "_law_settings") (cArgs [(cBin oIx (cVar 0) (cCon (.int 0)))]))) 1 [5,6] .one (fun _=>ret true) (law_direct_e2 cl))])) (gN 7))
  (sSeq (sAsg (cApp (cl "_law_either") (cArgs [(cBin oIx (cBin oIx (cVar 2) (cVar 3)) (cVar 4)),(cVar 7)])) (gS (cBin oIx (cVar 2) (cVar 3)) (cVar 4)))
  (sSeq (sAsg (cBin oIx (cBin oIx (cVar 2) (cVar 3)) (cVar 4)) (gS (cBin oIx (cVar 2) (cVar 4)) (cVar 3)))
  sPass)))
noncomputable def law_direct_e4 (cl:CLL):C :=
 (cBin oMul (cTup (cArgs [(cApp fInt (cArgs [(cBin oEq (cVar 1) (cVar 0))]))])) (cVar 2))
noncomputable def law_direct_e3 (cl:CLL):C :=
 (cComp (iRange1 (cArgs [(cBin oIx (cVar 1) (cCon (.int 1)))])) 1 [0,2] .one (fun _=>ret true) (law_direct_e4 cl))
noncomputable def b_law_direct (cl:CLL):CS :=
 (sSeq (sAsg (cBin oShl (cCon (.int 1)) (cBin oIx (cVar 0) (cCon (.int 0)))) (gN 1))
  (sSeq (sAsg (cComp (iRange1 (cArgs [(cBin oIx (cVar 0) (cCon (.int 1)))])) 1 [0,1] .one (fun _=>ret true) (law_direct_e3 cl)) (gN 2))
  (sSeq (sFor (iSeq (cBin oIx (cVar 0) (cCon (.int 2)))) (gT [(gN 3),(gN 4),(gN 5),(gN 6)]) (law_direct_l1 cl))
  (sSeq (sRet (cApp fTuple (cArgs [(cComp (iSeq (cVar 2)) 1 [] .one (fun _=>ret true) (law_direct_e1 cl))])))
  sPass))))
def Hs_law_direct (cl:Nat→CLL):Prop:=∀ n,cl (n+1) "_law_direct"=runF 1 8 (b_law_direct (cl n))
noncomputable def b_law_put_v2 (cl:CLL):CS :=
 (sSeq (sAsg (cBin oAdd (cBin oAdd (cSl oSl (cBin oIx (cVar 0) (cVar 1)) cNoPart (cPart (cVar 2))) (cTup (cArgs [(cVar 3)]))) (cSl oSl (cBin oIx (cVar 0) (cVar 1)) (cPart (cBin oAdd (cVar 2) (cCon (.int 1)))) cNoPart)) (gN 4))
  (sSeq (sRet (cBin oAdd (cBin oAdd (cSl oSl (cVar 0) cNoPart (cPart (cVar 1))) (cTup (cArgs [(cVar 4)]))) (cSl oSl (cVar 0) (cPart (cBin oAdd (cVar 1) (cCon (.int 1)))) cNoPart)))
  sPass))
def Hs_law_put_v2 (cl:Nat→CLL):Prop:=∀ n,cl (n+1) "_law_put"=runF 4 5 (b_law_put_v2 (cl n))
noncomputable def law_bent_v7_e1 (cl:CLL):C :=
 (cSl oSl (cVar 0) cNoPart (cPart (cUn oNeg (cCon (.int 1)))))
noncomputable def law_bent_v7_e2 (cl:CLL):C :=
 (cApp (cl "_law_take") (cArgs [(cVar 1),(cApp fLen (cArgs [(cVar 2)]))]))
noncomputable def b_law_bent_v7 (cl:CLL):CS :=
 (sSeq (sAsg (cComp (iRange1 (cArgs [(cCon (.int 2))])) 1 [0,1] .one (fun _=>ret true) (law_bent_v7_e2 cl)) (gT [(gN 2),(gN 3)]))
  (sSeq (sAsg (cBin oIx (cBin oIx (cVar 1) (cVar 2)) (cVar 3)) (gN 4))
  (sSeq (sAsg (cApp (cl "_law_take") (cArgs [(cVar 0),(cApp fLen (cArgs [(cVar 4)]))])) (gN 5))
  (sSeq (sAsg (cBin oIx (cLst (cArgs [(cBin (oInt fun i j=>i - j) (cCon (.int 1)) (cBin oIx (cVar 4) (cVar 5))),(cCon (.int 2)),(cCon (.bl true)),(cCon .non),(cUn oNeg (cCon (.int 1))),(cCon (.str (Str.ofString "1")))])) (cApp (cl "_law_take") (cArgs [(cVar 0),(cCon (.int 6))]))) (gN 6))
  (sSeq (sAsg (cLst (cArgs [(cBin oAdd (cBin oAdd (cSl oSl (cVar 4) cNoPart (cPart (cVar 5))) (cTup (cArgs [(cVar 6)]))) (cSl oSl (cVar 4) (cPart (cBin oAdd (cVar 5) (cCon (.int 1)))) cNoPart)),(cSl oSl (cVar 4) (cPart (cCon (.int 1))) cNoPart),(cBin oAdd (cVar 4) (cTup (cArgs [(cCon (.int 1))]))),(cApp fList (cArgs [(cVar 4)])),(cCon .non),(cBin oRev (cVar 4) (cUn oNeg (cCon (.int 1))))])) (gN 7))
  (sSeq (sAsg (cBin oIx (cVar 7) (cApp (cl "_law_take") (cArgs [(cVar 0),(cCon (.int 6))]))) (gN 8))
  (sSeq (sAsg (cApp (cl "_law_put") (cArgs [(cVar 1),(cVar 2),(cVar 3),(cVar 8)])) (gN 9))
  (sSeq (sAsg (cLst (cArgs [(cVar 9),(cApp (cl "_law_put") (cArgs [(cVar 9),(cVar 3),(cVar 2),(cVar 8)])),(cVar 9),(cSl oSl (cVar 1) (cPart (cCon (.int 1))) cNoPart),(cBin oAdd (cVar 1) (cSl oSl (cVar 1) cNoPart (cPart (cCon (.int 1))))),(cApp fList (cArgs [(cVar 1)])),(cBin oAdd (cTup (cArgs [(cBin oIx (cVar 1) (cCon (.int 0)))])) (cSl oSl (cVar 1) cNoPart (cPart (cUn oNeg (cCon (.int 1))))))])) (gN 10))
  (sSeq (sAsg (cBin oAdd (cVar 10) (cLst (cArgs [(cBin oAdd (cBin oAdd (cSl oSl (cVar 1) cNoPart (cPart (cVar 2))) (cTup (cArgs [(cApp fList (cArgs [(cBin oIx (cVar 1) (cVar 2))]))]))) (cSl oSl (cVar 1) (cPart (cBin oAdd (cVar 2) (cCon (.int 1)))) cNoPart)),(cApp fTuple (cArgs [(cComp (iSeq (cVar 1)) 1 [] .one (fun _=>ret true) (law_bent_v7_e1 cl))])),(cTup (cArgs [(cVar 1)]))]))) (gN 10))
  (sSeq (sRet (cBin oIx (cVar 10) (cApp (cl "_law_take") (cArgs [(cVar 0),(cCon (.int 10))]))))
  sPass))))))))))
def Hs_law_bent_v7 (cl:Nat→CLL):Prop:=∀ n,cl (n+1) "_law_bent"=runF 2 11 (b_law_bent_v7 (cl n))
noncomputable def law_both_e1 (cl:CLL):C :=
 (cBin oMul (cVar 0) (cVar 1))
noncomputable def b_law_both (cl:CLL):CS :=
 (sSeq (sRet (cApp fTuple (cArgs [(cComp (iZipL (cArgs [(cVar 0),(cVar 1)])) 2 [] (.many 2) (fun _=>ret true) (law_both_e1 cl))])))
  sPass)
def Hs_law_both (cl:Nat→CLL):Prop:=∀ n,cl (n+1) "_law_both"=runF 2 2 (b_law_both (cl n))
noncomputable def law_out_l2 (cl:CLL):CS :=
 (sSeq (sExpr (cMeth "list" (mList gAppend) (cVar 5) (cArgs [(cApp (cl "_law_either") (cArgs [(cBin oIx (cBin oIx (cVar 0) (cVar 4)) (cVar 6)),(cApp (cl "_law_both") (cArgs [(cBin oIx (cBin oIx (cVar 0) (cVar 4)) (cVar 1)),(cBin oIx (cBin oIx (cVar 0) (cVar 1)) (cVar 6))]))]))])))
  sPass)
noncomputable def law_out_l1 (cl:CLL):CS :=
 (sSeq (sAsg (cLst (cArgs [])) (gN 5))
  (sSeq (sFor (iSeq (cVar 2)) (gN 6) (law_out_l2 cl))
  (sSeq (sExpr (cMeth "list" (mList gAppend) (cVar 3) (cArgs [(cApp fTuple (cArgs [(cVar 5)]))])))
  sPass)))
noncomputable def law_out_t1 (cl:CLL):CT :=
 (cBool (cBin oNe (cVar 0) (cVar 1)))
noncomputable def law_out_e1 (cl:CLL):C :=
 (cVar 0)
noncomputable def b_law_out (cl:CLL):CS :=
 (sSeq (sAsg (cComp (iRange1 (cArgs [(cApp fLen (cArgs [(cVar 0)]))])) 1 [1] .one (law_out_t1 cl) (law_out_e1 cl)) (gN 2))
  (sSeq (sAsg (cLst (cArgs [])) (gN 3))
  (sSeq (sFor (iSeq (cVar 2)) (gN 4) (law_out_l1 cl))
  (sSeq (sRet (cApp fTuple (cArgs [(cVar 3)])))
  sPass))))
def Hs_law_out (cl:Nat→CLL):Prop:=∀ n,cl (n+1) "_law_out"=runF 2 7 (b_law_out (cl n))
noncomputable def law_due_v2_t1 (cl:CLL):CT :=
 (cBool (cBin oEq (cApp (cl "_law_out") (cArgs [(cVar 1),(cVar 0)])) (cVar 2)))
noncomputable def law_due_v2_e1 (cl:CLL):C :=
 (cVar 0)
noncomputable def law_due_v2_l1 (cl:CLL):CS :=
 (sSeq (sIf (cBool (cBin oEq (cComp (iRange2 (cArgs [(cCon (.int 2)),(cApp fLen (cArgs [(cVar 3)]))])) 1 [3,4] .one (law_due_v2_t1 cl) (law_due_v2_e1 cl)) (cLst (cArgs [])))) (sSeq (sRet (cCon (.bl false)))
  sPass) sPass)
  sPass)
noncomputable def law_due_v2_e2 (cl:CLL):C :=
 (cApp (cl "_law_is_table") (cArgs [(cVar 1),(cVar 0)]))
noncomputable def b_law_due_v2 (cl:CLL):CS :=
 (sSeq (sIf (cOrT (cNotT (cTru (cApp fInst (cArgs [(cVar 2),(cCon (.ty "tuple"))])))) (cNotT (cTru (cApp (fBools fun bs=>bs.all id) (cArgs [(cComp (iSeq (cVar 2)) 1 [0] .one (fun _=>ret true) (law_due_v2_e2 cl))]))))) (sSeq (sRet (cCon (.bl false)))
  sPass) sPass)
  (sSeq (sIf (cOrT (cBool (cBin oEq (cVar 2) (cTup (cArgs [])))) (cOrT (cBool (cBin oNe (cBin oIx (cVar 2) (cCon (.int 0))) (cVar 1))) (cBool (cBin oNe (cApp fLen (cArgs [(cBin oIx (cVar 2) (cUn oNeg (cCon (.int 1))))])) (cCon (.int 2)))))) (sSeq (sRet (cCon (.bl false)))
  sPass) sPass)
  (sSeq (sFor (iZipL (cArgs [(cVar 2),(cSl oSl (cVar 2) (cPart (cCon (.int 1))) cNoPart)])) (gT [(gN 3),(gN 4)]) (law_due_v2_l1 cl))
  (sSeq (sRet (cCon (.bl true)))
  sPass))))
def Hs_law_due_v2 (cl:Nat→CLL):Prop:=∀ n,cl (n+1) "_law_due"=runF 3 5 (b_law_due_v2 (cl n))
noncomputable def law_made_l1 (cl:CLL):CS :=
 (sSeq (sExpr (cMeth "list" (mList gAppend) (cVar 2) (cArgs [(cApp (cl "_law_out") (cArgs [(cBin oIx (cVar 2) (cUn oNeg (cCon (.int 1)))),(cBin oAdd (cCon (.int 2)) (cApp (cl "_law_take") (cArgs [(cVar 0),(cBin (oInt fun i j=>i - j) (cApp fLen (cArgs [(cBin oIx (cVar 2) (cUn oNeg (cCon (.int 1))))])) (cCon (.int 2)))])))]))])))
  sPass)
noncomputable def b_law_made (cl:CLL):CS :=
 (sSeq (sAsg (cLst (cArgs [(cVar 1)])) (gN 2))
  (sSeq (whileS wfuel (cBool (cBin (oCmp fun i j=>decide (j<i)) (cApp fLen (cArgs [(cBin oIx (cVar 2) (cUn oNeg (cCon (.int 1))))])) (cCon (.int 2)))) (law_made_l1 cl))
  (sSeq (sRet (cApp fTuple (cArgs [(cVar 2)])))
  sPass)))
def Hs_law_made (cl:Nat→CLL):Prop:=∀ n,cl (n+1) "_law_made"=runF 2 3 (b_law_made (cl n))
noncomputable def b_law_bent_v8 (cl:CLL):CS :=
 (sSeq (sAsg (cApp (cl "_law_take") (cArgs [(cVar 0),(cApp fLen (cArgs [(cVar 1)]))])) (gN 3))
  (sSeq (sAsg (cBin oIx (cVar 1) (cVar 3)) (gN 4))
  (sSeq (sAsg (cBin oIx (cBin oIx (cVar 4) (cCon (.int 0))) (cCon (.int 1))) (gN 5))
  (sSeq (sAsg (cBin oAdd (cTup (cArgs [(cBin (oInt fun i j=>i - j) (cCon (.int 1)) (cBin oIx (cVar 5) (cCon (.int 0))))])) (cSl oSl (cVar 5) (cPart (cCon (.int 1))) cNoPart)) (gN 6))
  (sSeq (sAsg (cBin oAdd (cBin oAdd (cTup (cArgs [(cBin oAdd (cTup (cArgs [(cBin oIx (cBin oIx (cVar 4) (cCon (.int 0))) (cCon (.int 0))),(cVar 6)])) (cSl oSl (cBin oIx (cVar 4) (cCon (.int 0))) (cPart (cCon (.int 2))) cNoPart))])) (cTup (cArgs [(cBin oAdd (cTup (cArgs [(cVar 6)])) (cSl oSl (cBin oIx (cVar 4) (cCon (.int 1))) (cPart (cCon (.int 1))) cNoPart))]))) (cSl oSl (cVar 4) (cPart (cCon (.int 2))) cNoPart)) (gN 7))
  (sSeq (sAsg (cBin oIx (cLst (cArgs [(cVar 7),(cVar 2),(cCon .non),(cApp fList (cArgs [(cVar 4)])),(cTup (cArgs [])),(cSl oSl (cVar 4) cNoPart (cPart (cUn oNeg (cCon (.int 1)))))])) (cApp (cl "_law_take") (cArgs [(cVar 0),(cCon (.int 6))]))) (gN 8))
  (sSeq (sAsg (cLst (cArgs [(cBin oAdd (cBin oAdd (cSl oSl (cVar 1) cNoPart (cPart (cVar 3))) (cTup (cArgs [(cVar 8)]))) (cSl oSl (cVar 1) (cPart (cBin oAdd (cVar 3) (cCon (.int 1)))) cNoPart)),(cBin oAdd (cSl oSl (cVar 1) cNoPart (cPart (cVar 3))) (cSl oSl (cVar 1) (cPart (cBin oAdd (cVar 3) (cCon (.int 1)))) cNoPart)),(cBin oAdd (cSl oSl (cVar 1) cNoPart (cPart (cBin oAdd (cVar 3) (cCon (.int 1))))) (cSl oSl (cVar 1) (cPart (cVar 3)) cNoPart))])) (gN 9))
  (sSeq (sAsg (cBin oAdd (cVar 9) (cLst (cArgs [(cSl oSl (cVar 1) cNoPart (cPart (cUn oNeg (cCon (.int 1))))),(cApp fList (cArgs [(cVar 1)])),(cBin oRev (cVar 1) (cUn oNeg (cCon (.int 1)))),(cBin oAdd (cVar 1) (cSl oSl (cVar 1) (cPart (cUn oNeg (cCon (.int 1)))) cNoPart)),(cTup (cArgs [(cVar 1)])),(cSl oSl (cVar 1) (cPart (cCon (.int 1))) cNoPart)]))) (gN 9))
  (sSeq (sRet (cBin oIx (cVar 9) (cApp (cl "_law_take") (cArgs [(cVar 0),(cCon (.int 9))]))))
  sPass)))))))))
def Hs_law_bent_v8 (cl:Nat→CLL):Prop:=∀ n,cl (n+1) "_law_bent"=runF 3 10 (b_law_bent_v8 (cl n))
variable {cl:Nat→CLL}
theorem cell_spec (h:Hs_law_cell_at cl) (n:Nat) (ns:List Int) (k:Int) (hk:0≤k) (S:Store):∃ c,cl (n+1) "_law_cell_at" [.rol (ns.map D.int),.int k] S=.ok (.int c) S:=by
 by_cases hl:k<ns.length
 ·refine ⟨ns[k.toNat]'(by omega),?_⟩
  have e:atI (ns.map D.int) k=some (.int (ns[k.toNat]'(by omega))):=by
   have q:=atI_nat (xs:=ns.map D.int) (j:=k.toNat) (v:=.int (ns[k.toNat]'(by omega))) (by rw [List.getElem?_map,List.getElem?_eq_getElem (by omega)]; rfl)
   rw [show ((k.toNat:Nat):Int)=k by omega] at q
   exact q
  rw [h]
  refine run_rt rfl ?_
  simp [b_law_cell_at,startE,hl,e]
 ·refine ⟨0,?_⟩
  rw [h]
  refine run_rt rfl ?_
  simp [b_law_cell_at,startE,hl]
def StOk (S:Store) (i:Nat):Prop:=∃ s b,lstAt S i=some [.int s,.bl b]∧(b=false→0≤s∧s<2147483647)
theorem StOk.lt {S:Store}{i:Nat} (h:StOk S i):i<S.length:=by
 obtain ⟨s,b,e,_⟩:=h
 exact lstAt_lt e
theorem StOk.ex {S S':Store}{i:Nat} (h:StOk S i) (e:Ex S S'):StOk S' i:=by
 obtain ⟨s,b,q,r⟩:=h
 exact ⟨s,b,e.lst q (fun z=>z),r⟩
theorem state_spec (h:Hs_law_state cl) (hc:Hs_law_cell_at cl) (n:Nat) (ns:List Int) (k:Int) (hk:0≤k) (S:Store):∃ S1,cl (n+2) "_law_state" [.rol (ns.map D.int),.int k] S=.ok (.lst S.length) S1∧Ex S S1∧StOk S1 S.length:=by
 obtain ⟨c,ec⟩:=cell_spec hc n ns k hk S
 rw [show n+2=(n+1)+1 from rfl,h]
 by_cases hb:(1000000000000000000:Int)≤c
 ·refine ⟨S++[.lst [.int (c - 1000000000000000000),.bl true]],run_rt rfl ?_,ex_app _ _,_,_,lstAt_new _ _,fun z=>by cases z⟩
  simp [b_law_state,startE,ec,hb]
 ·refine ⟨S++[.lst [.int (c % 2147483647),.bl false]],run_rt rfl ?_,ex_app _ _,_,_,lstAt_new _ _,fun _=>⟨Int.emod_nonneg _ (by decide),Int.emod_lt_of_pos _ (by decide)⟩⟩
  simp [b_law_state,startE,ec,hb]
theorem mulOk_r {i j:Int} (h1:-18446744073709551616<j) (h2:j<18446744073709551616):mulOk i j=true:=by
 unfold mulOk; simp [h1,h2]
@[simp] theorem ixN_two0:ixN 2 0=some 0:=rfl
inductive TakeR (c:CLL) (S:Store) (i:Nat) (m:Int):Prop
 | mk (r:Int) (S1:Store) (e:c "_law_take" [.lst i,.int m] S=.ok (.int r) S1) (a:0≤r) (b:r<m) (k:Kp (·=i) S S1) (l:S1.length=S.length) (st:StOk S1 i)
theorem take_spec (h:Hs_law_take cl) (n:Nat) {S:Store}{i:Nat} (hS:StOk S i) {m:Int} (m0:0<m) (m1:m<1073741824):TakeR (cl (n+1)) S i m:=by
 obtain ⟨s,b,hs,hb⟩:=hS
 have e0:=oIx_lst hs
 cases b with
 | true =>
  refine ⟨s % m,S.set i (.lst [.int (s / m),.bl true]),?_,Int.emod_nonneg _ (by omega),Int.emod_lt_of_pos _ m0,kp_set _ _,by simp,⟨_,_,lstAt_set hs,fun z=>by cases z⟩⟩
  rw [h]
  refine run_rt rfl ?_
  simp [b_law_take,startE,e0,m0,m1,oSet_lst hs]
 | false =>
  obtain ⟨s0,s1⟩:=hb rfl
  generalize hz:(s*48271+29) % 2147483647=z
  have z0:0≤z:=by rw [← hz]; exact Int.emod_nonneg _ (by decide)
  have z1:z<2147483647:=by rw [← hz]; exact Int.emod_lt_of_pos _ (by decide)
  generalize hy:(z*z+39373*z+7) % 2147483629=y
  have y0:0≤y:=by rw [← hy]; exact Int.emod_nonneg _ (by decide)
  have y1:y<2147483629:=by rw [← hy]; exact Int.emod_lt_of_pos _ (by decide)
  generalize hx:(y*y+16807*y) % 2147483587=x
  refine ⟨x / 8 % m,S.set i (.lst [.int z,.bl false]),?_,Int.emod_nonneg _ (by omega),Int.emod_lt_of_pos _ m0,kp_set _ _,by simp,⟨_,_,lstAt_set hs,fun _=>⟨z0,z1⟩⟩⟩
  rw [h]
  refine run_rt rfl ?_
  have e1:=oIx_lst (lstAt_set (ys:=[.int z,.bl false]) hs)
  have k1:mulOk s 48271=true:=mulOk_r (by decide) (by decide)
  have k2:mulOk z z=true:=mulOk_r (by omega) (by omega)
  have k3:mulOk 39373 z=true:=mulOk_r (by omega) (by omega)
  have k4:mulOk y y=true:=mulOk_r (by omega) (by omega)
  have k5:mulOk 16807 y=true:=mulOk_r (by omega) (by omega)
  simp [b_law_take,startE,e0,oSet_lst hs,k1,hz,e1,k2,k3,hy,k4,k5,hx,m0]
structure Ct where
 a:Int
 b:Int
 k:Int
 o:Int
 deriving DecidableEq
noncomputable def Ct.d (c:Ct):D:=.tup [.int c.a,.int c.b,.int c.k,.int c.o]
def Ct.ok (sw pl:Int) (c:Ct):Prop:=0≤c.a∧c.a<c.b∧c.b<pl∧0≤c.k∧c.k<sw∧0≤c.o∧c.o<2
structure Net where
 sw:Int
 pl:Int
 cs:List Ct
noncomputable def Net.d (n:Net):D:=.tup [.int n.sw,.int n.pl,.tup (n.cs.map Ct.d)]
structure Net.ok (ms mp mc:Int) (n:Net):Prop where
 s1:1≤n.sw
 s2:n.sw≤ms
 p1:2≤n.pl
 p2:n.pl≤mp
 c1:(n.cs.length:Int)≤mc
 c2:∀ c∈n.cs,c.ok n.sw n.pl
theorem oAdd_lst {S:Store}{n m:Nat}{xs ys:List D} (h1:lstAt S n=some xs) (h2:lstAt S m=some ys) (h:xs.length+ys.length≤lim):oAdd (.lst n) (.lst m) S=.ok (.lst S.length) (S++[.lst (xs++ys)]):=by
 show (match S[n]?,S[m]? with | some (O.lst xs),some (O.lst ys)=>(if xs.length+ys.length≤lim then R.ok (D.lst S.length) (S++[O.lst (xs++ys)]) else .bad) | _,_=>.bad)=_
 rw [lstAt_some h1,lstAt_some h2]
 dsimp only
 rw [if_pos h]
noncomputable def rowL (n:Int):List Int:=[0]++((List.range (n - 2).toNat).map fun (k:Nat)=>(2:Int)+(k:Nat))++[1]
noncomputable def rowJ (n i:Int):Int:=if i=0 then 0 else if i=n - 1 then 1 else i+1
theorem rowL_len {n:Int} (h2:2≤n):(rowL n).length=n.toNat:=by unfold rowL; simp; omega
theorem rowL_get {n:Int}{i:Nat} (h2:2≤n) (hi:(i:Int)<n):(rowL n)[i]?=some (rowJ n i):=by
 unfold rowL rowJ
 by_cases h0:i=0
 ·subst h0; simp
 ·rw [if_neg (by omega)]
  by_cases hl:(i:Int)=n - 1
  ·rw [if_pos hl,List.getElem?_append_right (by simp; omega)]
   have:i - ([0]++((List.range (n - 2).toNat).map fun (k:Nat)=>(2:Int)+(k:Nat))).length=0:=by simp; omega
   rw [this]; rfl
  ·rw [if_neg hl,List.getElem?_append_left (by simp; omega),List.getElem?_append_right (by simp; omega)]
   simp only [List.length_cons,List.length_nil,List.getElem?_map]
   rw [List.getElem?_range (by omega)]
   simp
   omega
theorem rowL_at {n i:Int} (h2:2≤n) (h0:0≤i) (hi:i<n):atI ((rowL n).map D.int) i=some (.int (rowJ n i)):=by
 have q:=atI_nat (xs:=(rowL n).map D.int) (j:=i.toNat) (v:=.int (rowJ n i.toNat)) (by rw [List.getElem?_map,rowL_get h2 (by omega)]; rfl)
 rw [show ((i.toNat:Nat):Int)=i by omega] at q
 exact q
theorem rowJ_in {n i:Int} (h2:2≤n) (h0:0≤i) (hi:i<n):0≤rowJ n i∧rowJ n i<n:=by
 unfold rowJ; split <;> (try split) <;> omega
theorem rowJ_ne {n i j:Int} (h2:2≤n) (h0:0≤i) (hij:i<j) (hj:j<n):rowJ n i≠rowJ n j:=by
 unfold rowJ; split <;> split <;> (try split) <;> (try split) <;> omega
theorem mima {x y n:Int} (hx:0≤x∧x<n) (hy:0≤y∧y<n) (h:x≠y):0≤(if y<x then y else x)∧(if y<x then y else x)<(if y>x then y else x)∧(if y>x then y else x)<n:=by
 split <;> split <;> omega
theorem upD_len (lo:Int) (n:Nat):(upD lo n).length=n:=by unfold upD; simp
theorem lim_eq:lim=1048576:=rfl
theorem row_ev {ρ:Env1}{j:Nat}{n:Int} (hj:ρ[j]?=some (some (.int n))) (h2:2≤n) (h7:n≤7) (S:Store):∃ k S1,cBin oAdd (cBin oAdd (cLst (cArgs [(cCon (.int 0))])) (cApp fListR (cArgs [(cCon (.int 2)),(cVar j)]))) (cLst (cArgs [(cCon (.int 1))])) ρ S=.ok (.lst k) S1∧Ex S S1∧S.length≤k∧lstAt S1 k=some ((rowL n).map D.int):=by
 have e1:fListR [.int 2,.int n] (S++[O.lst [D.int 0]])=.ok (.lst (S++[O.lst [D.int 0]]).length) (S++[O.lst [D.int 0]]++[.lst (upD 2 (n - 2).toNat)]):=by
  unfold fListR
  dsimp only
  rw [if_pos (by omega)]
 generalize hA:S++[O.lst [D.int 0]]++[O.lst (upD 2 (n - 2).toNat)]=A at e1
 have a1:lstAt A S.length=some [.int 0]:=by rw [← hA]; exact lstAt_app (lstAt_new _ _)
 have a2:lstAt A (S++[O.lst [D.int 0]]).length=some (upD 2 (n - 2).toNat):=by rw [← hA]; exact lstAt_new _ _
 have e2:=oAdd_lst a1 a2 (by rw [upD_len,lim_eq]; simp; omega)
 generalize hB:A++[O.lst ([D.int 0]++upD 2 (n - 2).toNat)]=B at e2
 have b1:lstAt (B++[O.lst [D.int 1]]) A.length=some ([D.int 0]++upD 2 (n - 2).toNat):=by rw [← hB]; exact lstAt_app (lstAt_new _ _)
 have e3:=oAdd_lst b1 (lstAt_new B [D.int 1]) (by rw [List.length_append,upD_len,lim_eq]; simp; omega)
 refine ⟨(B++[O.lst [D.int 1]]).length,(B++[O.lst [D.int 1]])++[O.lst ([D.int 0]++upD 2 (n - 2).toNat++[D.int 1])],?_,?_,?_,?_⟩
 ·simp only [cBin_ev,cLst_ev,cArgs_cons,cArgs_nil,cCon_ev,rbnd_ok,cApp_ev,cVar_ev,hj,e1,e2,e3]
 ·have:Ex S A:=by rw [← hA]; exact (ex_app _ _).trans (ex_app _ _)
  have:Ex S B:=by rw [← hB]; exact this.trans (ex_app _ _)
  exact (this.trans (ex_app _ _)).trans (ex_app _ _)
 ·rw [List.length_append,← hB,List.length_append,← hA]; simp; omega
 ·rw [lstAt_new]
  congr 1
  unfold rowL upD
  simp
inductive EndsR (c:CLL) (S:Store) (i:Nat) (pl:Int):Prop
 | mk (x y:Int) (S1:Store) (e:c "_law_ends" [.lst i,.int pl] S=.ok (.tup [.int x,.int y]) S1) (h0:0≤x) (h1:x<y) (h2:y<pl) (k:Kp (·=i) S S1) (st:StOk S1 i)
theorem ends_spec (h:Hs_law_ends cl) (ht:Hs_law_take cl) (n:Nat) {S:Store}{i:Nat} (hS:StOk S i) {pl:Int} (p2:2≤pl) (p7:pl≤7):EndsR (cl (n+2)) S i pl:=by
 obtain ⟨k,S1,e1,x1,hk,l1⟩:=row_ev (ρ:=[some (.lst i),some (.int pl),none,none,none]) (j:=1) rfl p2 p7 S
 have st1:=hS.ex x1
 have ki:k≠i:=by have:=hS.lt; omega
 obtain ⟨one,S2,e2,o0,o1,k2,n2,st2⟩:=take_spec ht n st1 (m:=pl - 1) (by omega) (by omega)
 obtain ⟨c3,S3,e3,c0,c1,k3,n3,st3⟩:=take_spec ht n st2 (m:=3) (by omega) (by omega)
 have l3:lstAt S3 k=some ((rowL pl).map D.int):=k3.lst (k2.lst l1 ki) ki
 have fin:∀ (other:Int) (S4:Store),one<other→other<pl→lstAt S4 k=some ((rowL pl).map D.int)→∀ x y,x=(if rowJ pl other<rowJ pl one then rowJ pl other else rowJ pl one)→y=(if rowJ pl other>rowJ pl one then rowJ pl other else rowJ pl one) →
   (oIx (.lst k) (.int one) S4=.ok (.int (rowJ pl one)) S4∧oIx (.lst k) (.int other) S4=.ok (.int (rowJ pl other)) S4)∧0≤x∧x<y∧y<pl:=by
  intro other S4 h1 h2 l4 x y ex ey
  obtain ⟨m1,m2,m3⟩:=mima (rowJ_in p2 (i:=one) (by omega) (by omega)) (rowJ_in p2 (i:=other) (by omega) (by omega)) (rowJ_ne p2 (by omega) h1 h2)
  subst ex ey
  exact ⟨⟨by rw [oIx_lst l4,rowL_at p2 (by omega) (by omega)],by rw [oIx_lst l4,rowL_at p2 (by omega) (by omega)]⟩,m1,m2,m3⟩
 by_cases hc:c3=0
 ·obtain ⟨r,S4,e4,r0,r1,k4,n4,st4⟩:=take_spec ht n st3 (m:=pl - 1 - one) (by omega) (by omega)
  obtain ⟨⟨f1,f2⟩,f3,f4,f5⟩:=fin (one+1+r) S4 (by omega) (by omega) (k4.lst l3 ki) _ _ rfl rfl
  refine ⟨_,_,S4,?_,f3,f4,f5,(x1.kp.trans k2).trans (k3.trans k4),st4⟩
  rw [show n+2=(n+1)+1 from rfl,h]
  refine run_rt rfl ?_
  simp [b_law_ends,startE,↓e1,e2,e3,hc,e4,f1,f2]
 ·obtain ⟨⟨f1,f2⟩,f3,f4,f5⟩:=fin (one+1) S3 (by omega) (by omega) l3 _ _ rfl rfl
  refine ⟨_,_,S3,?_,f3,f4,f5,(x1.kp.trans k2).trans k3,st3⟩
  rw [show n+2=(n+1)+1 from rfl,h]
  refine run_rt rfl ?_
  simp [b_law_ends,startE,↓e1,e2,e3,hc,f1,f2]
theorem _root_.L2.Kp.setNew {P:Nat→Prop}{S0 S:Store}{l:Nat}{o:O} (h:Kp P S0 S) (hl:S0.length≤l):Kp P S0 (S.set l o) :=
 ⟨by rw [List.length_set]; exact h.le,fun j hj n=>by rw [List.getElem?_set_ne (by omega)]; exact h.eq j hj n⟩
theorem StOk.setO {S:Store}{i l:Nat}{o:O} (h:StOk S i) (hl:l≠i):StOk (S.set l o) i:=by
 obtain ⟨s,b,q,r⟩:=h
 exact ⟨s,b,lstAt_of (by rw [List.getElem?_set_ne hl]; exact lstAt_some q),r⟩
theorem lstAt_setO {S:Store}{i l:Nat}{o:O}{xs:List D} (h:lstAt S i=some xs) (hl:l≠i):lstAt (S.set l o) i=some xs:=lstAt_of (by rw [List.getElem?_set_ne hl]; exact lstAt_some h)
@[simp] theorem upD_get {lo:Int}{n i:Nat}{d:D}:(upD lo n)[i]?=some d↔i<n∧d=.int (lo+i):=by
 unfold upD
 rw [List.getElem?_map]
 by_cases h:i<n
 ·rw [List.getElem?_range h]; simp [h,eq_comm]
 ·rw [List.getElem?_eq_none (by simpa using h)]; simp [h]
structure Rows (S0 S:Store) (i l:Nat) (sw pl:Int) (cs:List Ct):Prop where
 at':lstAt S l=some (cs.map Ct.d)
 ok:∀ c∈cs,c.ok sw pl
 st:StOk S i
 kp:Kp (·=i) S0 S
 ge:S0.length≤l
 ne:l≠i
theorem Rows.put {S0 S S1:Store}{i l:Nat}{sw pl:Int}{cs ds:List Ct} (h:Rows S0 S i l sw pl cs) (k:Kp (·=i) S S1) (st:StOk S1 i) (hd:∀ c∈ds,c.ok sw pl):Rows S0 (S1.set l (.lst (ds.map Ct.d))) i l sw pl ds :=
 ⟨lstAt_set (k.lst h.at' h.ne),hd,st.setO h.ne,(h.kp.trans k).setNew h.ge,h.ge,h.ne⟩
theorem Rows.go {S0 S S1:Store}{i l:Nat}{sw pl:Int}{cs:List Ct} (h:Rows S0 S i l sw pl cs) (k:Kp (·=i) S S1) (st:StOk S1 i):Rows S0 S1 i l sw pl cs:=⟨k.lst h.at' h.ne,h.ok,st,h.kp.trans k,h.ge,h.ne⟩
noncomputable def nE (i:Nat) (ms mp mc sw pl:Int) (l:Nat) (a b c d e f:Option D):Env1:=[some (.lst i),some (.int ms),some (.int mp),some (.int mc),some (.int sw),some (.int pl),some (.lst l),a,b,c,d,e,f]
inductive NetP (S:Store) (i:Nat) (ms mp mc:Int) (N:Net) (S1:Store):Prop
 | mk (ok:N.ok ms mp mc) (k:Kp (·=i) S S1) (st:StOk S1 i)
inductive NetRt (r:RS) (S:Store) (i:Nat) (ms mp mc:Int):Prop
 | mk (N:Net) (S1:Store) (e:r=.rt N.d S1) (p:NetP S i ms mp mc N S1)
inductive NetOk (r:R D) (S:Store) (i:Nat) (ms mp mc:Int):Prop
 | mk (N:Net) (S1:Store) (e:r=.ok N.d S1) (ok:N.ok ms mp mc) (k:Kp (·=i) S S1) (st:StOk S1 i)
inductive NetI1 (S0:Store) (i l:Nat) (ms mp mc sw pl:Int) (v7 v8 v9 v10:Option D) (m:Nat) (cs:List Ct) (j:Nat) (ρ:Env1) (S':Store):Prop
 | mk (v12:Option D) (ds:List Ct) (e:ρ=nE i ms mp mc sw pl l v7 v8 v9 v10 (some (.lst m)) v12) (Rl:Rows S0 S' i l sw pl cs) (Rd:Rows S0 S' i m sw pl ds) (h:ds.length=j)
inductive NetI2 (S0:Store) (i l:Nat) (ms mp mc sw pl:Int) (v7 v8 v9:Option D) (n0:Nat) (j:Nat) (ρ:Env1) (S':Store):Prop
 | mk (v10:Option D) (ds:List Ct) (e:ρ=nE i ms mp mc sw pl l v7 v8 v9 v10 none none) (R:Rows S0 S' i l sw pl ds) (h:ds.length=n0+j)
inductive NetI3 (S0:Store) (i l:Nat) (ms mp mc sw pl:Int) (kr t:Nat) (j:Nat) (ρ:Env1) (S':Store):Prop
 | mk (v8 v9:Option D) (ds:List Ct) (e:ρ=nE i ms mp mc sw pl l (some (.lst kr)) v8 v9 none none none) (R:Rows S0 S' i l sw pl ds) (h:ds.length=j) (q1:lstAt S' kr=some ((rowL pl).map D.int)) (q2:lstAt S' t=some (((rowL pl).drop 1).map D.int))
theorem net_spec (h:Hs_law_net cl) (he:Hs_law_ends cl) (ht:Hs_law_take cl) (n:Nat) {S:Store}{i:Nat} (hS:StOk S i) {ms mp mc:Int} (hms:1≤ms∧ms≤4) (hmp:2≤mp∧mp≤7) (hmc:0≤mc∧mc≤16):NetOk (cl (n+3) "_law_net" [.lst i,.int ms,.int mp,.int mc] S) S i ms mp mc:=by
 obtain ⟨r1,S1,e1,a1,b1,k1,n1,st1⟩:=take_spec ht (n+1) hS (m:=ms) (by omega) (by omega)
 obtain ⟨r2,S2,e2,a2,b2,k2,n2,st2⟩:=take_spec ht (n+1) st1 (m:=mp - 1) (by omega) (by omega)
 generalize hsw:1+r1=sw at *
 generalize hpl:2+r2=pl at *
 have w1:1≤sw:=by omega
 have w2:sw≤ms:=by omega
 have p1:2≤pl:=by omega
 have p2:pl≤mp:=by omega
 have kS2:Kp (·=i) S S2:=k1.trans k2
 have hl:S.length≤S2.length:=kS2.le
 have li:S2.length≠i:=by have:=hS.lt; omega
 obtain ⟨kr,S4,e4,x4,hk4,l4⟩:=row_ev (ρ:=nE i ms mp mc sw pl S2.length none none none none none none) (j:=5) rfl p1 (by omega) (S2++[.lst []])
 have kri:kr≠i:=by have:=hS.lt; simp at hk4; omega
 have krl:kr≠S2.length:=by simp at hk4; omega
 have R4:Rows S S4 i S2.length sw pl []:=⟨x4.lst (lstAt_new _ _) (fun z=>z),(fun c hc=>by cases hc),(st2.ex (ex_app _ _)).ex x4,kS2.trans ((ex_app S2 [.lst []]).trans x4).kp,hl,li⟩
 have fin:∀ (cs:List Ct) (S5:Store) (v7 v8 v9 v10:Option D),Rows S S5 i S2.length sw pl cs→(cs.length:Int)≤mc →
   NetRt ((sSeq (sAsg (cLst (cArgs [])) (gN 11)) (sSeq (sFor (iSeq (cVar 6)) (gN 12) (law_net_l1 (cl (n+2)))) (sSeq (sRet (cTup (cArgs [(cVar 4),(cVar 5),(cApp fTuple (cArgs [(cVar 11)]))]))) sPass))) (nE i ms mp mc sw pl S2.length v7 v8 v9 v10 none none) S5) S i ms mp mc:=by
  intro cs S5 v7 v8 v9 v10 R5 hc
  have hm:S.length≤S5.length:=R5.kp.le
  have mi:S5.length≠i:=by have:=hS.lt; omega
  have ml:S2.length≠S5.length:=by have:=lstAt_lt R5.at'; omega
  have Rm:Rows S (S5++[.lst []]) i S2.length sw pl cs:=R5.go (ex_app _ _).kp (R5.st.ex (ex_app _ _))
  obtain ⟨ρ',S6,e6,v12,ds,hρ,Rl,Rd,hd⟩:=loop_inv (w:=[(S2.length,cs.map Ct.d)]) (g:=gN 12) (b:=law_net_l1 (cl (n+2))) (items:=cs.map Ct.d)
   (NetI1 S i S2.length ms mp mc sw pl v7 v8 v9 v10 S5.length cs)
   (ρ:=nE i ms mp mc sw pl S2.length v7 v8 v9 v10 (some (.lst S5.length)) none) (S:=S5++[.lst []])
   (fun j ρ S' hp=>by obtain ⟨_,_,_,q,_⟩:=hp; exact okW_one q.at')
   ⟨none,[],rfl,Rm,⟨lstAt_new _ _,(fun c hc=>by cases hc),Rm.st,Rm.kp,hm,mi⟩,rfl⟩
   (fun j d ρ S' hd hp=>by
    obtain ⟨v12,ds,rfl,Rl,Rd,hj⟩:=hp
    rw [List.getElem?_map] at hd
    obtain ⟨c,hc1,rfl⟩:=Option.map_eq_some_iff.mp hd
    have cok:=R5.ok c (List.mem_of_getElem? hc1)
    have jl:j<cs.length:=(List.getElem?_eq_some_iff.mp hc1).1
    obtain ⟨r,S7,e7,r0,r9,k7,n7,st7⟩:=take_spec ht (n+1) Rl.st (m:=((ds.map Ct.d).length:Int)+1) (by omega) (by rw [List.length_map]; omega)
    rw [List.length_map] at e7 r9
    have hins:∀ c'∈ds.take r.toNat++c::ds.drop r.toNat,c'.ok sw pl:=fun c' hc'=>by
     rcases List.mem_append.mp hc' with q | q
     ·exact Rd.ok c' (List.mem_of_mem_take q)
     ·rcases List.mem_cons.mp q with q | q
      ·subst q; exact cok
      ·exact Rd.ok c' (List.mem_of_mem_drop q)
    have Rd7:=Rd.put k7 st7 hins
    have Rl7:Rows S (S7.set S5.length (.lst ((ds.take r.toNat++c::ds.drop r.toNat).map Ct.d))) i S2.length sw pl cs:=⟨lstAt_setO (k7.lst Rl.at' Rl.ne) (Ne.symm ml),Rl.ok,st7.setO Rd.ne,(Rl.kp.trans k7).setNew Rd.ge,Rl.ge,Rl.ne⟩
    refine ⟨_,_,rfl,_,_,.inl ?_,⟨some c.d,ds.take r.toNat++c::ds.drop r.toNat,rfl,Rl7,Rd7,by simp; omega⟩⟩
    have q1:=tyOk_lst Rd.at'
    have q2:=fLen_lst Rd.at'
    have q3:=mList_ev (k7.lst Rd.at' Rd.ne) gInsert [.int r,c.d]
    have q4:ds.length<1000∧0≤r∧r.toNat≤ds.length:=by omega
    simp [nE,law_net_l1,q1,q2,e7,q3,q4])
  subst hρ
  refine ⟨⟨sw,pl,ds⟩,S6,?_,⟨⟨w1,w2,p1,p2,by show (ds.length:Int)≤mc; rw [hd,List.length_map]; exact hc,Rd.ok⟩,Rd.kp,Rd.st⟩⟩
  have q5:lstAt (S5++[O.lst []]) S2.length=some (cs.map Ct.d):=Rm.at'
  have q6:=fTuple_lst Rd.at'
  unfold nE at e6 ⊢
  simp [q5,e6,q6,Net.d]
 have mid:∀ (cs:List Ct) (S5:Store) (v7 v8 v9:Option D),Rows S S5 i S2.length sw pl cs→(cs.length:Int)≤mc →
   NetRt ((sSeq (sFor (iRange1 (cArgs [(cApp (cl (n+2) "_law_take") (cArgs [(cVar 0),(cBin oAdd (cBin (oInt fun i j=>i - j) (cVar 3) (cApp fLen (cArgs [(cVar 6)]))) (cCon (.int 1)))]))])) (gN 10) (law_net_l2 (cl (n+2))))
    (sSeq (sAsg (cLst (cArgs [])) (gN 11)) (sSeq (sFor (iSeq (cVar 6)) (gN 12) (law_net_l1 (cl (n+2)))) (sSeq (sRet (cTup (cArgs [(cVar 4),(cVar 5),(cApp fTuple (cArgs [(cVar 11)]))]))) sPass)))) (nE i ms mp mc sw pl S2.length v7 v8 v9 none none none) S5) S i ms mp mc:=by
  intro cs S5 v7 v8 v9 R5 hc
  obtain ⟨r,S6,e6,r0,r9,k6,n6,st6⟩:=take_spec ht (n+1) R5.st (m:=mc - ((cs.map Ct.d).length:Int)+1) (by rw [List.length_map]; omega) (by omega)
  rw [List.length_map] at e6 r9
  have R6:=R5.go k6 st6
  obtain ⟨ρ',S7,e7,v10,ds,hρ,Rd,hd⟩:=loop_inv (w:=[]) (g:=gN 10) (b:=law_net_l2 (cl (n+2))) (items:=upD 0 r.toNat)
   (NetI2 S i S2.length ms mp mc sw pl v7 v8 v9 cs.length)
   (fun j ρ S' hp=>okW_nil _) ⟨none,cs,rfl,R6,rfl⟩
   (fun j d ρ S' hd hp=>by
    obtain ⟨v10,ds,rfl,R,hj⟩:=hp
    rw [upD_get] at hd
    obtain ⟨hjr,rfl⟩:=hd
    obtain ⟨x,y,S8,e8,x0,xy,yp,k8,st8⟩:=ends_spec he ht n R.st p1 (by omega)
    obtain ⟨r3,S9,e9,a3,b3,k9,n9,st9⟩:=take_spec ht (n+1) st8 (m:=sw) (by omega) (by omega)
    obtain ⟨r4,S10,e10,a4,b4,k10,n10,st10⟩:=take_spec ht (n+1) st9 (m:=2) (by omega) (by omega)
    have kk:=(k8.trans k9).trans k10
    have hok:∀ c∈ds++[⟨x,y,r3,r4⟩],Ct.ok sw pl c:=fun c hc=>by
     rcases List.mem_append.mp hc with q | q
     ·exact R.ok c q
     ·simp at q; subst q; exact ⟨x0,xy,yp,a3,b3,a4,b4⟩
    have Rd:=R.put kk st10 hok
    refine ⟨_,_,rfl,_,_,.inl ?_,⟨some (.int (0+(j:Int))),ds++[⟨x,y,r3,r4⟩],rfl,Rd,by simp; omega⟩⟩
    have q1:=tyOk_lst R.at'
    have q2:=mList_ev (kk.lst R.at' R.ne) gAppend [Ct.d ⟨x,y,r3,r4⟩]
    have q3:ds.length<lim:=by rw [lim_eq]; omega
    have q4:(2:Nat)+2≤lim:=by decide
    simp [nE,law_net_l2,q1,e8,e9,e10,Ct.d,q4] at q2 ⊢
    simp [q2,q3])
  subst hρ
  obtain ⟨N,S11,e11,r11⟩:=fin ds S7 v7 v8 v9 v10 Rd (by rw [hd,upD_len]; omega)
  refine ⟨N,S11,?_,r11⟩
  have q5:=fLen_lst R5.at'
  rw [List.length_map] at q5
  have q6:-4611686018427387904≤r∧r<4611686018427387904:=by omega
  rw [sSeq_ev,sFor_ev]
  unfold nE at e7 e11 ⊢
  simp [q5,e6,q6,e7,-sSeq_ev,e11]
 obtain ⟨c5,S5,e5,a5,b5,k5,n5,st5⟩:=take_spec ht (n+1) R4.st (m:=2) (by omega) (by omega)
 have R5:=R4.go k5 st5
 have l5:lstAt S5 kr=some ((rowL pl).map D.int):=k5.lst l4 kri
 have main:NetRt (b_law_net (cl (n+2)) [some (.lst i),some (.int ms),some (.int mp),some (.int mc),none,none,none,none,none,none,none,none,none] S) S i ms mp mc:=by
  unfold nE at e4
  by_cases hc:c5=0∧pl - 1≤mc
  ·have hcut:cutD ((rowL pl).map D.int) (some 1) none=((rowL pl).drop 1).map D.int:=by
    unfold cutD
    have hs:HT.sIx ((rowL pl).map D.int).length 0 (some 1)=1:=by
     have:=HT.sIx_nat ((rowL pl).map D.int).length 0 1
     have hl:=rowL_len p1
     rw [List.length_map] at this ⊢
     rw [show ((1:Nat):Int)=1 from rfl] at this
     rw [this]; omega
    rw [hs,HT.sIx_none,List.map_drop,List.take_of_length_le (by simp)]
   have x6:=ex_app S5 [O.lst (((rowL pl).drop 1).map D.int)]
   have t6:lstAt (S5++[O.lst (((rowL pl).drop 1).map D.int)]) S5.length=some (((rowL pl).drop 1).map D.int):=lstAt_new _ _
   have l6:=x6.lst l5 (fun z=>z)
   have ti:S5.length≠i:=by have:=st5.lt; omega
   have tl:S5.length≠S2.length:=by have:=lstAt_lt R5.at'; omega
   have R6:=R5.go x6.kp (st5.ex x6)
   obtain ⟨ρ',S7,e7,v8,v9,ds,hρ,Rd,hd,_⟩:=loop_inv (w:=[(kr,(rowL pl).map D.int),(S5.length,((rowL pl).drop 1).map D.int)]) (g:=gT [gN 8,gN 9]) (b:=law_net_l3 (cl (n+2))) (items:=zipD ((rowL pl).map D.int) (((rowL pl).drop 1).map D.int))
    (NetI3 S i S2.length ms mp mc sw pl kr S5.length)
    (ρ:=nE i ms mp mc sw pl S2.length (some (.lst kr)) none none none none none) (S:=S5++[O.lst (((rowL pl).drop 1).map D.int)])
    (fun j ρ S' hp=>by obtain ⟨_,_,_,_,_,_,q1,q2⟩:=hp; exact okW_two q1 q2)
    ⟨none,none,[],rfl,R6,rfl,l6,t6⟩
    (fun j d ρ S' hd hp=>by
     obtain ⟨v8,v9,ds,rfl,R,hj,q1,q2⟩:=hp
     have hz:∃ x y,(rowL pl)[j]?=some x∧(rowL pl)[1+j]?=some y∧d=.tup [.int x,.int y]:=by
      unfold zipD at hd
      rw [List.getElem?_map] at hd
      obtain ⟨⟨x,y⟩,hxy,rfl⟩:=Option.map_eq_some_iff.mp hd
      rw [List.getElem?_zip_eq_some,List.getElem?_map,List.getElem?_map,List.getElem?_drop] at hxy
      obtain ⟨hx,hy⟩:=hxy
      obtain ⟨x',hx',rfl⟩:=Option.map_eq_some_iff.mp hx
      obtain ⟨y',hy',rfl⟩:=Option.map_eq_some_iff.mp hy
      exact ⟨x',y',hx',hy',rfl⟩
     obtain ⟨x,y,hx,hy,rfl⟩:=hz
     have hjl:1+j<(rowL pl).length:=(List.getElem?_eq_some_iff.mp hy).1
     rw [rowL_len p1] at hjl
     rw [rowL_get p1 (by omega)] at hx hy
     cases hx
     cases hy
     obtain ⟨r3,S9,e9,a3,b3,k9,n9,st9⟩:=take_spec ht (n+1) R.st (m:=sw) (by omega) (by omega)
     obtain ⟨r4,S10,e10,a4,b4,k10,n10,st10⟩:=take_spec ht (n+1) st9 (m:=2) (by omega) (by omega)
     have kk:=k9.trans k10
     obtain ⟨m1,m2,m3⟩:=mima (n:=pl) (rowJ_in p1 (i:=(j:Int)) (by omega) (by omega)) (rowJ_in p1 (i:=((1+j:Nat):Int)) (by omega) (by omega)) (rowJ_ne p1 (by omega) (by omega) (by omega))
     generalize hX:(if rowJ pl ((1+j:Nat):Int)<rowJ pl (j:Int) then rowJ pl ((1+j:Nat):Int) else rowJ pl (j:Int))=X at m1 m2
     generalize hY:(if rowJ pl ((1+j:Nat):Int)>rowJ pl (j:Int) then rowJ pl ((1+j:Nat):Int) else rowJ pl (j:Int))=Y at m2 m3
     have hok:∀ c∈ds++[⟨X,Y,r3,r4⟩],Ct.ok sw pl c:=fun c hc=>by
      rcases List.mem_append.mp hc with q | q
      ·exact R.ok c q
      ·simp at q; subst q; exact ⟨m1,m2,m3,a3,b3,a4,b4⟩
     have Rd:=R.put kk st10 hok
     refine ⟨_,_,rfl,_,_,.inl ?_,⟨some (.int (rowJ pl (j:Int))),some (.int (rowJ pl ((1+j:Nat):Int))),ds++[⟨X,Y,r3,r4⟩],rfl,Rd,by simp; omega,lstAt_setO (kk.lst q1 kri) krl.symm,lstAt_setO (kk.lst q2 ti) tl.symm⟩⟩
     have q7:=tyOk_lst R.at'
     have q8:=mList_ev (kk.lst R.at' R.ne) gAppend [Ct.d ⟨X,Y,r3,r4⟩]
     have q9:ds.length<lim:=by rw [lim_eq]; omega
     simp [nE,law_net_l3,q7,e9,e10,Ct.d,-Int.natCast_add,hX,hY] at q8 ⊢
     simp [q8,q9])
   have hdl:ds.length=pl.toNat - 1:=by
    rw [hd]
    unfold zipD
    rw [List.length_map,List.length_zip,List.length_map,List.length_map,List.length_drop,rowL_len p1]
    exact Nat.min_eq_right (Nat.sub_le _ _)
   subst hρ
   obtain ⟨N,S11,e11,r11⟩:=mid ds S7 (some (.lst kr)) v8 v9 Rd (by omega)
   unfold nE at e7 e11
   refine ⟨N,S11,?_,r11⟩
   have q3:=oSl_lst l5 (some 1) none
   rw [hcut] at q3
   unfold b_law_net
   generalize hT:((rowL pl).drop 1).map D.int=T at q3 l6 t6 e7
   generalize hT2:(rowL pl).map D.int=T2 at q3 l6 t6 e7
   simp [e1,e2,hsw,hpl,↓e4,e5,hc.1,hc.2,q3,l6,t6,e7,↓e11]
  ·obtain ⟨N,S11,e11,r11⟩:=mid [] S5 (some (.lst kr)) none none R5 (by show (0:Int)≤mc; omega)
   unfold nE at e11
   refine ⟨N,S11,?_,r11⟩
   unfold b_law_net
   by_cases h0:c5=0
   ·have h1:¬ (pl - 1≤mc):=fun z=>hc ⟨h0,z⟩
    simp [e1,e2,hsw,hpl,↓e4,e5,h0,h1,↓e11]
   ·simp [e1,e2,hsw,hpl,↓e4,e5,h0,↓e11]
 obtain ⟨N,S12,e12,a12,b12,c12⟩:=main
 exact ⟨N,S12,by rw [show n+3=(n+2)+1 from rfl,h]; exact run_rt rfl e12,a12,b12,c12⟩
end My
namespace Mt
def Joined (es:List (Int × Int)):Prop:=∀ C:Int→Prop,C 0→(∀ e∈es,(C e.1↔C e.2))→C 1
structure Reached (es:List (Int × Int)) (s:Int) (F:Int→Prop):Prop where
 start:F s
 closed:∀ e∈es,(F e.1↔F e.2)
 least:∀ C:Int→Prop,C s→(∀ e∈es,(C e.1↔C e.2))→∀ x,F x→C x
theorem Reached.joined {es:List (Int × Int)}{F:Int→Prop} (h:Reached es 0 F):F 1↔Joined es:=⟨fun f C c0 cc=>h.least C c0 cc 1 f,fun j=>j F h.start h.closed⟩
theorem filter_lt {α:Type}{p q:α→Bool}{l:List α} (h:∀ x,p x=true→q x=true) {a:α} (ha:a∈l) (h1:q a=true) (h2:p a=false):(l.filter p).length<(l.filter q).length:=by
 induction l with
 | nil=>cases ha
 | cons x r ih =>
  have le:(r.filter p).length≤(r.filter q).length:=by
   clear ih ha
   induction r with
   | nil=>simp
   | cons y r ih =>
    rw [List.filter_cons,List.filter_cons]
    cases hp:p y with
    | true=>rw [h y hp]; simpa using ih
    | false =>
     cases q y with
     | true=>simp; omega
     | false=>simpa using ih
  rw [List.filter_cons,List.filter_cons]
  rcases List.mem_cons.mp ha with e | e
  ·subst e
   rw [h1,h2]; simp; omega
  ·have:=ih e
   cases hp:p x with
   | true=>rw [h x hp]; simpa using this
   | false =>
    cases q x with
    | true=>simp; omega
    | false=>simpa using this
structure MOk (pl:Int) (ms:List Int):Prop where
 len:(ms.length:Int)=pl
 pos:∀ (i:Nat) x,ms[i]?=some x→0≤x
end Mt
namespace My
open PySem L2 Mt
variable {cl:Nat→CLL}
noncomputable def bitsD (st:List Int):D:=.tup (st.map D.int)
noncomputable def shutB (c:Ct) (st:List Int):Bool:=decide (st.getD c.k.toNat 0=c.o)
theorem atI_ints {l:List Int}{k:Int} (h0:0≤k) (h1:k<l.length):atI (l.map D.int) k=some (.int (l.getD k.toNat 0)):=by
 have e:l[k.toNat]?=some (l.getD k.toNat 0):=by rw [List.getD,List.getElem?_eq_getElem (by omega)]; rfl
 have q:=atI_nat (xs:=l.map D.int) (j:=k.toNat) (v:=.int (l.getD k.toNat 0)) (by rw [List.getElem?_map,e]; rfl)
 rw [show ((k.toNat:Nat):Int)=k by omega] at q
 exact q
theorem is_shut_spec (h:Hs_is_shut cl) (n:Nat) (c:Ct) (st:List Int) (h0:0≤c.k) (h1:c.k<st.length) (S:Store):cl (n+1) "is_shut" [c.d,bitsD st] S=.ok (.bl (shutB c st)) S:=by
 rw [h]
 refine run_rt rfl ?_
 simp [b_is_shut,startE,Ct.d,bitsD,atI_ints h0 h1,shutB]
theorem lim_big:(1000:Nat)<lim:=by decide
noncomputable def ends (cs:List Ct):List (Int × Int):=cs.map fun c=>(c.a,c.b)
noncomputable def cntF (B:Nat) (fs:List Int):Nat:=((List.range B).filter fun (v:Nat)=>decide ((v:Int)∈fs)).length
theorem cntF_le (B:Nat) (fs:List Int):cntF B fs≤B:=by
 unfold cntF
 have:=List.length_filter_le (fun (v:Nat)=>decide ((v:Int)∈fs)) (List.range B)
 simpa using this
theorem cntF_lt {B:Nat}{fs gs:List Int} (h:∀ x,x∈fs→x∈gs) {x:Int} (hx:x∈gs) (hn:x∉fs) (h0:0≤x) (hB:x<B):cntF B fs<cntF B gs:=by
 unfold cntF
 refine filter_lt (a:=x.toNat) (fun v hv=>?_) ?_ ?_ ?_
 ·simp only [decide_eq_true_eq] at hv ⊢; exact h _ hv
 ·rw [List.mem_range]; omega
 ·simp only [decide_eq_true_eq]; rw [show ((x.toNat:Nat):Int)=x by omega]; exact hx
 ·simp only [decide_eq_false_iff_not]; rw [show ((x.toNat:Nat):Int)=x by omega]; exact hn
theorem addK_len (fs:List Int) (a:Int):(addK fs a).length≤fs.length+1:=by unfold addK; split <;> simp
noncomputable def pE (s:Int) (k l:Nat) (g:Bool) (v:Option D):Env1:=[some (.int s),some (.lst k),some (.dct l),some (.bl g),v]
def Clo (cs:List Ct) (s:Int) (fs:List Int):Prop:=∀ C:Int→Prop,C s→(∀ e∈ends cs,(C e.1↔C e.2))→∀ x∈fs,C x
inductive PlW (cs:List Ct) (s:Int) (k:Nat) (S:Store) (m:Nat) (ρ:Env1) (S':Store):Prop
 | mk (fs:List Int) (g:Bool) (v4:Option D) (e:ρ=pE s k S.length g v4) (kp:Kp (·=S.length) (S++[.dk (dkOf [s])]) S') (hf:S'[S.length]?=some (.dk (dkOf fs))) (r1:s∈fs) (r2:Clo cs s fs) (r3:g=false→∀ e∈ends cs,(e.1∈fs↔e.2∈fs)) (r4:g=true→m+cntF 7 fs=9) (r5:fs.length+200*m≤2000) (nd:fs.Nodup)
inductive PlQ (cs:List Ct) (s:Int) (k:Nat) (S:Store) (ρ:Env1) (S':Store):Prop
 | mk (fs:List Int) (v4:Option D) (e:ρ=pE s k S.length false v4) (kp:Kp (·=S.length) (S++[.dk (dkOf [s])]) S') (hf:S'[S.length]?=some (.dk (dkOf fs))) (r1:s∈fs) (r2:Clo cs s fs) (r3:∀ e∈ends cs,(e.1∈fs↔e.2∈fs)) (nd:fs.Nodup)
inductive PlL (cs:List Ct) (s:Int) (k:Nat) (S:Store) (fs:List Int) (j:Nat) (ρ:Env1) (S2:Store):Prop
 | mk (fs2:List Int) (g2:Bool) (v4:Option D) (e:ρ=pE s k S.length g2 v4) (kp:Kp (·=S.length) (S++[.dk (dkOf [s])]) S2) (hf:S2[S.length]?=some (.dk (dkOf fs2))) (q1:∀ x∈fs,x∈fs2) (q2:Clo cs s fs2)
  (q3:g2=false→fs2=fs∧∀ i c,i<j→cs[i]?=some c→(c.a∈fs↔c.b∈fs)) (q4:g2=true→cntF 7 fs<cntF 7 fs2) (q5:fs2.length≤fs.length+2*j) (nd:fs2.Nodup)
theorem addK_nd {fs:List Int} (h:fs.Nodup) (a:Int):(addK fs a).Nodup:=by
 unfold addK
 split
 ·exact h
 ·rename_i ha
  exact List.nodup_append.mpr ⟨h,by simp,fun x hx y hy e=>ha (by rw [List.mem_singleton] at hy; subst hy; subst e; exact hx)⟩
theorem places_nd (h:Hs_places_from cl) (n:Nat) (cs:List Ct) (s:Int) (hs:0≤s∧s<7) (hc:cs.length≤100) (hb:∀ c∈cs,(0≤c.a∧c.a<7)∧0≤c.b∧c.b<7) {S:Store}{k:Nat} (hk:lstAt S k=some (cs.map Ct.d)) :
  ∃ m S1 fs,cl (n+1) "places_from" [.int s,.lst k] S=.ok (.dct m) S1∧Ex S S1∧S1[m]?=some (.dk (dkOf fs))∧Reached (ends cs) s (·∈fs)∧fs.Nodup:=by
 have km:k≠S.length:=by have:=lstAt_lt hk; omega
 obtain ⟨ρ',S',e,fs,v4,rfl,kp,hfs,r1,r2,r3,nd⟩:=while_go (t:=cTru (cVar 3)) (b:=places_from_l1 (cl n)) (PlW cs s k S) (PlQ cs s k S)
  (fun m ρ S' hp=>by
   obtain ⟨fs,g,v4,rfl,kp,hfs,r1,r2,r3,r4,r5,nd⟩:=hp
   cases g with
   | false=>exact .inl ⟨S',by simp [pE],⟨fs,v4,rfl,kp,hfs,r1,r2,r3 rfl,nd⟩⟩
   | true =>
    refine .inr ⟨S',by simp [pE],?_⟩
    have hl:lstAt S' k=some (cs.map Ct.d):=kp.lst (lstAt_app hk) km
    obtain ⟨ρ2,S2,e2,fs2,g2,v4',rfl,kp2,hfs2,q1,q2,q3,q4,q5,nd2⟩:=loop_inv (w:=[(k,cs.map Ct.d)]) (g:=gN 4) (b:=places_from_l2 (cl n)) (items:=cs.map Ct.d)
     (PlL cs s k S fs) (ρ:=pE s k S.length false v4) (S:=S')
     (fun j ρ S2 hp=>by
      obtain ⟨_,_,_,_,kp⟩:=hp
      exact okW_one (kp.lst (lstAt_app hk) km))
     ⟨fs,false,v4,rfl,kp,hfs,fun x hx=>hx,r2,fun _=>⟨rfl,fun i c hi=>by omega⟩,(fun z=>by cases z),by omega,nd⟩
     (fun j d ρ S2 hd hp=>by
      obtain ⟨fs2,g2,v4,rfl,kp2,hf2,q1,q2,q3,q4,q5,nd2⟩:=hp
      rw [List.getElem?_map] at hd
      obtain ⟨c,hcj,rfl⟩:=Option.map_eq_some_iff.mp hd
      have hm:c∈cs:=List.mem_of_getElem? hcj
      have hj:j<cs.length:=(List.getElem?_eq_some_iff.mp hcj).1
      obtain ⟨ba,bb⟩:=hb c hm
      have he:(c.a,c.b)∈ends cs:=List.mem_map.mpr ⟨c,hm,rfl⟩
      refine ⟨_,_,rfl,?_⟩
      have i1:=oIn_dk hf2 false c.a
      have i2:=oIn_dk hf2 false c.b
      have hlim:fs2.length+2<lim:=by have:=lim_big; rw [lim_eq]; omega
      by_cases hne:(c.a∈fs2↔c.b∈fs2)
      ·refine ⟨_,S2,.inl ?_,⟨fs2,g2,some c.d,rfl,kp2,hf2,q1,q2,fun hg=>⟨(q3 hg).1,fun i c' hi hc'=>?_⟩,q4,by omega,nd2⟩⟩
       ·have:(decide (c.a∈fs2) != decide (c.b∈fs2))=false:=by simp [hne]
        simp [pE,places_from_l2,Ct.d,i1,i2,this]
       ·by_cases hij:i=j
        ·subst hij; rw [hcj] at hc'; cases hc'
         rw [(q3 hg).1] at hne; exact hne
        ·exact (q3 hg).2 i c' (by omega) hc'
      ·have s1:=oSet_dk hf2 (by omega) c.a
       have f3:(S2.set S.length (.dk (dkOf (addK fs2 c.a))))[S.length]?=some (.dk (dkOf (addK fs2 c.a))):=List.getElem?_set_self (List.getElem?_eq_some_iff.mp hf2).1
       have s2:=oSet_dk f3 (by have:=addK_len fs2 c.a; omega) c.b
       have f4:((S2.set S.length (.dk (dkOf (addK fs2 c.a)))).set S.length (.dk (dkOf (addK (addK fs2 c.a) c.b))))[S.length]?=some (.dk (dkOf (addK (addK fs2 c.a) c.b))):=List.getElem?_set_self (List.getElem?_eq_some_iff.mp f3).1
       have mem:∀ x,x∈addK (addK fs2 c.a) c.b↔x∈fs2∨x=c.a∨x=c.b:=fun x=>by rw [mem_addK,mem_addK,or_assoc]
       refine ⟨_,_,.inl ?_,⟨addK (addK fs2 c.a) c.b,true,some c.d,rfl,(kp2.trans (kp_set _ _)).trans (kp_set _ _),f4,fun x hx=>(mem x).mpr (.inl (q1 x hx)),fun C c0 cc x hx=>?_,(fun z=>by cases z),fun _=>?_,by have:=addK_len fs2 c.a; have:=addK_len (addK fs2 c.a) c.b; omega,addK_nd (addK_nd nd2 _) _⟩⟩
       ·have:(decide (c.a∈fs2) != decide (c.b∈fs2))=true:=by
         by_cases h1:c.a∈fs2 <;> by_cases h2:c.b∈fs2 <;> simp [h1,h2] at hne ⊢
        simp [pE,places_from_l2,Ct.d,i1,i2,this,s1,s2]
       ·have ca:=q2 C c0 cc
        have hcc:=cc _ he
        dsimp only at hcc
        have one:C c.a∧C c.b:=by
         by_cases h1:c.a∈fs2
         ·exact ⟨ca _ h1,hcc.mp (ca _ h1)⟩
         ·by_cases h2:c.b∈fs2
          ·exact ⟨hcc.mpr (ca _ h2),ca _ h2⟩
          ·exact absurd (iff_of_false h1 h2) hne
        rcases (mem x).mp hx with z | z | z
        ·exact ca x z
        ·subst z; exact one.1
        ·subst z; exact one.2
       ·have lt:cntF 7 fs2<cntF 7 (addK (addK fs2 c.a) c.b):=by
         by_cases h1:c.a∈fs2
         ·have h2:c.b∉fs2:=fun z=>hne (iff_of_true h1 z)
          exact cntF_lt (fun x hx=>(mem x).mpr (.inl hx)) ((mem c.b).mpr (.inr (.inr rfl))) h2 bb.1 bb.2
         ·exact cntF_lt (fun x hx=>(mem x).mpr (.inl hx)) ((mem c.a).mpr (.inr (.inl rfl))) h1 ba.1 ba.2
        cases g2 with
        | true=>have:=q4 rfl; omega
        | false=>rw [(q3 rfl).1] at lt ⊢; exact lt)
    have c0:=cntF_le 7 fs
    have c1:=r4 rfl
    rw [List.length_map] at q5
    have step:places_from_l1 (cl n) (pE s k S.length true v4) S'=.nx (pE s k S.length g2 v4') S2:=by unfold pE at e2 ⊢; simp [places_from_l1,hl,e2]
    cases g2 with
    | true =>
     have c2:=cntF_le 7 fs2
     have c3:=q4 rfl
     exact ⟨_,S2,.inl step,9 - cntF 7 fs2,by omega,⟨fs2,true,v4',rfl,kp2,hfs2,q1 s r1,q2,(fun z=>by cases z),fun _=>by omega,by omega,nd2⟩⟩
    | false =>
     refine ⟨_,S2,.inl step,0,by omega,⟨fs2,false,v4',rfl,kp2,hfs2,q1 s r1,q2,fun hg e he=>?_,(fun z=>by cases z),by omega,nd2⟩⟩
     obtain ⟨c,hc1,rfl⟩:=List.mem_map.mp he
     obtain ⟨i,hi⟩:=List.getElem?_of_mem hc1
     rw [(q3 hg).1]
     exact (q3 hg).2 i c (by rw [List.length_map]; exact (List.getElem?_eq_some_iff.mp hi).1) hi)
  wfuel (9 - cntF 7 [s]) (pE s k S.length true none) (S++[.dk (dkOf [s])]) (Nat.lt_of_le_of_lt (Nat.sub_le _ _) (by decide))
   ⟨[s],true,none,rfl,Kp.refl _ _,by rw [List.getElem?_append_right (Nat.le_refl _),Nat.sub_self]; rfl,by simp,fun C c0 _ x hx=>(by simp at hx; subst hx; exact c0),(fun z=>by cases z),fun _=>(by have:=cntF_le 7 [s]; omega),by simp; omega,by simp⟩
 refine ⟨S.length,S',fs,?_,⟨?_,fun j hj _=>?_⟩,hfs,⟨r1,r3,fun C c0 cc x hx=>r2 C c0 cc x hx⟩,nd⟩
 ·rw [h]
  refine run_rt rfl ?_
  have e0:(S++[O.dk [((Sum.inl s:Key),D.bl true)]])=S++[O.dk (dkOf [s])]:=rfl
  unfold pE at e
  simp [b_places_from,startE,keyOf,e0,e]
 ·have:=kp.le; simp at this; omega
 ·rw [kp.eq j (by simp; omega) (by omega),List.getElem?_append_left hj]
theorem places_spec (h:Hs_places_from cl) (n:Nat) (cs:List Ct) (s:Int) (hs:0≤s∧s<7) (hc:cs.length≤100) (hb:∀ c∈cs,(0≤c.a∧c.a<7)∧0≤c.b∧c.b<7) {S:Store}{k:Nat} (hk:lstAt S k=some (cs.map Ct.d)) :
  ∃ m S1 fs,cl (n+1) "places_from" [.int s,.lst k] S=.ok (.dct m) S1∧Ex S S1∧S1[m]?=some (.dk (dkOf fs))∧Reached (ends cs) s (·∈fs):=by
 obtain ⟨m,S1,fs,a,b,c,d,_⟩:=places_nd h n cs s hs hc hb hk
 exact ⟨m,S1,fs,a,b,c,d⟩
noncomputable def jB (es:List (Int × Int)):Bool:=@decide (Joined es) (Classical.propDecidable _)
theorem jB_iff {es:List (Int × Int)}:jB es=true↔Joined es:=by
 exact @decide_eq_true_iff _ (Classical.propDecidable _)
theorem jB_of {es:List (Int × Int)}{b:Bool} (h:b=true↔Joined es):b=jB es:=by
 cases b with
 | true=>exact (jB_iff.mpr (h.mp rfl)).symm
 | false =>
  cases q:jB es with
  | false=>rfl
  | true=>exact absurd (h.mpr (jB_iff.mp q)) Bool.false_ne_true
def In7 (cs:List Ct):Prop:=∀ c∈cs,(0≤c.a∧c.a<7)∧0≤c.b∧c.b<7
theorem joins_spec (h:Hs_joins cl) (hp:Hs_places_from cl) (n:Nat) (cs:List Ct) (hc:cs.length≤100) (hb:In7 cs) {S:Store}{k:Nat} (hk:lstAt S k=some (cs.map Ct.d)):Spc (cl (n+2) "joins" [.lst k] S) ((.bl (jB (ends cs)))) S:=by
 obtain ⟨m,S1,fs,e,x,hf,r⟩:=places_spec hp n cs 0 (by decide) hc hb hk
 refine ⟨S1,?_,x⟩
 rw [show n+2=(n+1)+1 from rfl,h]
 refine run_rt rfl ?_
 have q:=oIn_dk hf false 1
 have e2:decide ((1:Int)∈fs)=jB (ends cs):=jB_of (by rw [decide_eq_true_eq]; exact r.joined)
 simp [b_joins,startE,e,q,e2]
noncomputable def letsB (N:Net) (st:List Int):Bool:=jB (ends (N.cs.filter fun c=>shutB c st))
structure SetOk (N:Net) (st:List Int):Prop where
 len:(st.length:Int)=N.sw
theorem Net.ok.in7 {ms mp mc:Int}{N:Net} (h:N.ok ms mp mc) (hm:mp≤7):In7 N.cs:=fun c hc=>by
 obtain ⟨h1,h2,h3,_⟩:=h.c2 c hc
 have:=h.p2
 omega
theorem In7.filter {cs:List Ct} (h:In7 cs) (p:Ct→Bool):In7 (cs.filter p):=fun c hc=>h c (List.mem_filter.mp hc).1
theorem Net.ok.len {ms mp mc:Int}{N:Net} (h:N.ok ms mp mc) (hm:mc≤16):N.cs.length≤100:=by have:=h.c1; omega
theorem shut_contacts_spec (h:Hs_shut_contacts cl) (hi:Hs_is_shut cl) (n:Nat) (N:Net) (st:List Int) (hc:N.cs.length≤100) (hk:∀ c∈N.cs,0≤c.k∧c.k<st.length) (S:Store):cl (n+2) "shut_contacts" [N.d,bitsD st] S=.ok (.lst S.length) (S++[.lst ((N.cs.filter fun c=>shutB c st).map Ct.d)]):=by
 have e1:loopC [] .one (shut_contacts_t1 (cl (n+1))) (shut_contacts_e1 (cl (n+1))) [none,some (bitsD st)] (N.cs.map Ct.d) S=.ok ((N.cs.filter fun c=>shutB c st).map Ct.d) S:=by
  refine comp_pure Ct.d (okW_nil S) _ _ _ fun c hm=>⟨_,rfl,?_,fun _=>?_⟩
  ·have:=is_shut_spec hi n c st (hk _ hm).1 (hk _ hm).2 S
   simp [shut_contacts_t1,this]
  ·simp [shut_contacts_e1]
 rw [show n+2=(n+1)+1 from rfl,h]
 refine run_rt rfl ?_
 have e4:N.cs.length<lim:=by have:=lim_big; omega
 generalize (N.cs.filter fun c=>shutB c st).map Ct.d=F at e1
 simp [b_shut_contacts,startE,Net.d,e1,e4]
theorem lets_spec (h:Hs_lets cl) (hj:Hs_joins cl) (hp:Hs_places_from cl) (hs:Hs_shut_contacts cl) (hi:Hs_is_shut cl) (n:Nat) {N:Net}{st:List Int} (hc:N.cs.length≤100) (h7:In7 N.cs) (hk:∀ c∈N.cs,0≤c.k∧c.k<st.length) (S:Store):Spc (cl (n+3) "lets" [N.d,bitsD st] S) ((.bl (letsB N st))) S:=by
 have e1:=shut_contacts_spec hs hi n N st hc hk S
 have fl:(N.cs.filter fun c=>shutB c st).length≤100:=Nat.le_trans (List.length_filter_le _ _) hc
 obtain ⟨S2,e4,x2⟩:=joins_spec hj hp n _ fl (h7.filter _) (lstAt_new S ((N.cs.filter fun c=>shutB c st).map Ct.d))
 refine ⟨S2,?_,(ex_app _ _).trans x2⟩
 rw [show n+3=(n+2)+1 from rfl,h]
 refine run_rt rfl ?_
 simp [b_lets,startE,e1,e4,letsB]
@[simp] theorem cutD_two (w x y z:D):cutD [w,x,y,z] none (some 2)=[w,x]:=rfl
inductive MkO (nd x:D) (k:Nat) (S0:Store) (ms:List Int) (ρ:Env1) (S':Store):Prop
 | mk (v3 v4 v5 v6 v7:Option D) (e:ρ=[some nd,some x,some (.lst k),v3,v4,v5,v6,v7]) (kp:Kp (·=k) S0 S') (hm:lstAt S' k=some (ms.map D.int))
inductive MkI (nd x d:D) (k:Nat) (S0:Store) (ms:List Int) (ρ:Env1) (S':Store):Prop
 | mk (v4 v5 v6 v7:Option D) (e:ρ=[some nd,some x,some (.lst k),some d,v4,v5,v6,v7]) (kp:Kp (·=k) S0 S') (hm:lstAt S' k=some (ms.map D.int))
noncomputable def sett:Nat→List (List Int)
 | 0=>[[]]
 | n+1=>(sett n).map (0::·)++(sett n).map (1::·)
theorem sett_len:∀ n,(sett n).length=2 ^ n
 | 0=>rfl
 | n+1=>by unfold sett; rw [List.length_append,List.length_map,List.length_map,sett_len n,Nat.pow_succ]; omega
theorem sett_each:∀ n,∀ st∈sett n,st.length=n∧∀ b∈st,b=0∨b=1
 | 0,st,h=>by simp [sett] at h; subst h; simp
 | n+1,st,h=>by
  unfold sett at h
  rcases List.mem_append.mp h with q | q
  ·obtain ⟨t,ht,rfl⟩:=List.mem_map.mp q
   obtain ⟨h1,h2⟩:=sett_each n t ht
   exact ⟨by simp [h1],fun b hb=>by rcases List.mem_cons.mp hb with z | z; exact .inl z; exact h2 b z⟩
  ·obtain ⟨t,ht,rfl⟩:=List.mem_map.mp q
   obtain ⟨h1,h2⟩:=sett_each n t ht
   exact ⟨by simp [h1],fun b hb=>by rcases List.mem_cons.mp hb with z | z; exact .inr z; exact h2 b z⟩
theorem pow_small {j:Nat} (h:j≤4):2 ^ j≤16:=Nat.le_trans (Nat.pow_le_pow_right (by decide) h) (by decide)
theorem settings_spec (h:Hs_settings cl) (n:Nat) {sw:Int} (h0:0≤sw) (h4:sw≤4) (S:Store):∃ k S1,cl (n+1) "settings" [.int sw] S=.ok (.lst k) S1∧Ex S S1∧S.length≤k∧lstAt S1 k=some ((sett sw.toNat).map bitsD):=by
 obtain ⟨ρ',S1,e1,k,v2,rfl,x1,hk,l1⟩:=loop_inv (w:=[]) (g:=gN 2) (b:=settings_l1 (cl n)) (items:=upD 0 sw.toNat)
  (fun j ρ S'=>∃ k v2,ρ=[some (.int sw),some (.lst k),v2]∧Ex S S'∧S.length≤k∧lstAt S' k=some ((sett j).map bitsD))
  (ρ:=[some (.int sw),some (.lst S.length),none]) (S:=S++[.lst [.tup []]])
  (fun j ρ S' hp=>okW_nil _) ⟨S.length,none,rfl,ex_app _ _,Nat.le_refl _,by rw [lstAt_new]; rfl⟩
  (fun j d ρ S' hd hp=>by
   obtain ⟨k,v2,rfl,x1,hk,l1⟩:=hp
   rw [upD_get] at hd
   have hj:j<sw.toNat:=hd.1
   have lj:(sett j).length≤16:=by rw [sett_len]; exact pow_small (by omega)
   have comp:∀ (b:Int) (e:C) (he:∀ xs ρ S,e (some (.tup xs)::ρ) S=if 1+xs.length≤lim then .ok (.tup (.int b::xs)) S else .bad) (S2:Store),lstAt S2 k=some ((sett j).map bitsD)→loopC [(k,(sett j).map bitsD)] .one (fun _=>ret true) e [none] ((sett j).map bitsD) S2=.ok (((sett j).map (b::·)).map bitsD) S2:=by
    intro b e he S2 l2
    rw [List.map_map]
    refine comp_pureM bitsD (okW_one l2) _ _ fun st hst=>⟨_,rfl,?_⟩
    have:=(sett_each j st hst).1
    show e [some (bitsD st)] S2=_
    unfold bitsD
    rw [he,if_pos (by rw [List.length_map,lim_eq]; omega)]
    rfl
   have c1:=comp 0 (settings_e1 (cl n)) (fun xs ρ S=>by simp [settings_e1]) S' l1
   have l2:=(ex_app S' [.lst (((sett j).map (0::·)).map bitsD)]).lst l1 (fun z=>z)
   have c2:=comp 1 (settings_e2 (cl n)) (fun xs ρ S=>by simp [settings_e2]) (S'++[.lst (((sett j).map (0::·)).map bitsD)]) l2
   generalize hA:S'++[O.lst (((sett j).map (0::·)).map bitsD)]=A at c2 l2
   generalize hX0:((sett j).map (0::·)).map bitsD=X0 at c1 hA
   generalize hX1:((sett j).map (1::·)).map bitsD=X1 at c2
   have a1:lstAt (A++[.lst X1]) S'.length=some X0:=by rw [← hA]; exact lstAt_app (lstAt_new _ _)
   have n0:X0.length≤16:=by rw [← hX0]; simpa using lj
   have n1:X1.length≤16:=by rw [← hX1]; simpa using lj
   have ad:=oAdd_lst a1 (lstAt_new A X1) (by rw [lim_eq]; omega)
   refine ⟨_,_,rfl,_,A++[.lst X1]++[.lst (X0++X1)],.inl ?_,(A++[O.lst X1]).length,some d,rfl,?_,?_,?_⟩
   ·have ll:((sett j).map bitsD).length<lim:=by rw [List.length_map,lim_eq]; omega
    generalize hB:(sett j).map bitsD=B at l1 l2 c1 c2 ll
    simp [settings_l1,l1,c1,hA,l2,c2,ll,ad]
   ·rw [← hA]; exact ((x1.trans (ex_app _ _)).trans (ex_app _ _)).trans (ex_app _ _)
   ·rw [← hA]; have:=x1.le; simp; omega
   ·rw [lstAt_new,← hX0,← hX1,show sett (j+1)=(sett j).map (0::·)++(sett j).map (1::·) from rfl,List.map_append])
 rw [upD_len] at l1
 refine ⟨k,S1,?_,x1,hk,l1⟩
 rw [h]
 refine run_rt rfl ?_
 have f2:-4611686018427387904≤sw∧sw<4611686018427387904:=by omega
 simp [b_settings,startE,f2,e1]
noncomputable def funP (N:Net):List Int:=(sett N.sw.toNat).map fun st=>if letsB N st then 1 else 0
theorem sett_small {sw:Int} (h4:sw≤4):((sett sw.toNat).map bitsD).length<lim:=by rw [List.length_map,sett_len,lim_eq]; have:=pow_small (j:=sw.toNat) (by omega); omega
theorem function_of_spec (h:Hs_function_of cl) (hle:Hs_lets cl) (hj:Hs_joins cl) (hp:Hs_places_from cl) (hs:Hs_shut_contacts cl) (hi:Hs_is_shut cl) (hse:Hs_settings cl) (n:Nat) {N:Net} (w1:0≤N.sw) (w2:N.sw≤4) (hc:N.cs.length≤100) (h7:In7 N.cs) (hk:∀ c∈N.cs,0≤c.k∧c.k<N.sw) (S:Store) :
  Spc (cl (n+4) "function_of" [N.d] S) ((bitsD (funP N))) S:=by
 obtain ⟨k,S1,e1,x1,_,l1⟩:=settings_spec hse (n+2) (sw:=N.sw) w1 w2 S
 obtain ⟨S2,e2,x2⟩:=comp_mapM bitsD (w:=[(k,(sett N.sw.toNat).map bitsD)]) (t:=.one) (c:=function_of_e1 (cl (n+3))) (ρ0:=[none,some N.d]) (fun S'=>Ex S1 S') (fun S' x=>okW_one (x.lst l1 fun z=>z)) (fun st=>.int (if letsB N st then 1 else 0)) (sett N.sw.toNat) (Kp.refl _ _)
  (fun st hst S' x=>by
   have hl:=(sett_each _ st hst).1
   obtain ⟨S3,e3,x3⟩:=lets_spec hle hj hp hs hi n hc h7 (st:=st) (fun c hc=>by have:=hk c hc; rw [hl]; omega) S'
   refine ⟨_,rfl,S3,?_,x.trans x3⟩
   cases hb:letsB N st <;> simp [function_of_e1,e3,hb])
 have e4:(sett N.sw.toNat).map (fun st=>D.int (if letsB N st then 1 else 0))=(funP N).map D.int:=by unfold funP; rw [List.map_map]; rfl
 rw [e4] at e2
 refine ⟨_,?_,(x1.trans x2).trans (ex_app S2 [.lst ((funP N).map D.int)])⟩
 rw [show n+4=(n+3)+1 from rfl,h]
 refine run_rt rfl ?_
 have ll:=sett_small w2
 have t1:=fTuple_lst (lstAt_new S2 ((funP N).map D.int))
 have o0:oIx N.d (.int 0) S=.ok (.int N.sw) S:=by simp [Net.d]
 generalize (sett N.sw.toNat).map bitsD=B at *
 simp [b_function_of,startE,o0,e1,l1,ll,e2,t1,bitsD]
noncomputable def isIntD:D→Bool
 | .int _=>true
 | _=>false
def Scal (d:D):Prop:=(flat d).isSome=true
theorem is_whole_spec (h:Hs_is_whole cl) (n:Nat) {d:D} (hd:Scal d) (S:Store):cl (n+1) "is_whole" [d] S=.ok (.bl (isIntD d)) S:=by
 rw [h]
 refine run_rt rfl ?_
 cases d with
 | int i=>simp [b_is_whole,startE,isIntD]
 | bl b=>simp [b_is_whole,startE,isIntD]
 | non=>simp [b_is_whole,startE,isIntD]
 | str x=>simp [b_is_whole,startE,isIntD]
 | _=>cases hd
@[simp] theorem cutD_three (w x y z:D):cutD [w,x,y,z] none (some 3)=[w,x,y]:=rfl
theorem scal_int (i:Int):Scal (.int i):=rfl
structure HD (cl:Nat→CLL):Prop where
 st:Hs_law_state cl
 ce:Hs_law_cell_at cl
 ta:Hs_law_take cl
 en:Hs_law_ends cl
 ne:Hs_law_net cl
structure HF (cl:Nat→CLL):Prop where
 se:Hs_settings cl
 is:Hs_is_shut cl
 pf:Hs_places_from cl
 jo:Hs_joins cl
 sc:Hs_shut_contacts cl
 le:Hs_lets cl
 fo:Hs_function_of cl
structure HLf (cl:Nat→CLL):Prop where
 ls:Hs_law_settings cl
 sh:Hs_law_shut cl
 ma:Hs_law_marks cl
 le:Hs_law_lets cl
 fu:Hs_law_function cl
theorem Net.ok.up {ms mp mc ms' mp' mc':Int}{N:Net} (h:N.ok ms mp mc) (h1:ms≤ms') (h2:mp≤mp') (h3:mc≤mc'):N.ok ms' mp' mc':=⟨h.s1,Int.le_trans h.s2 h1,h.p1,Int.le_trans h.p2 h2,Int.le_trans h.c1 h3,h.c2⟩
abbrev Net.g (N:Net):Prop:=N.ok 4 7 16
theorem Net.ok.k2 {ms mp mc:Int}{N:Net} (h:N.ok ms mp mc):∀ c∈N.cs,0≤c.k∧c.k<N.sw:=fun c hc=>by obtain ⟨_,_,_,a,b,_⟩:=h.c2 c hc; exact ⟨a,b⟩
theorem HF.fun (F:HF cl) (n:Nat) {N:Net} (ok:N.g) (S:Store):Spc (cl (n+4) "function_of" [N.d] S) ((bitsD (funP N))) S :=
 function_of_spec F.fo F.le F.jo F.pf F.sc F.is F.se n (by have:=ok.s1; omega) ok.s2 (ok.len (by decide)) (ok.in7 (by decide)) ok.k2 S
theorem HF.setts (F:HF cl) (n:Nat) {N:Net} (ok:N.g) (S:Store):∃ k S1,cl (n+1) "settings" [.int N.sw] S=.ok (.lst k) S1∧Ex S S1∧S.length≤k∧lstAt S1 k=some ((sett N.sw.toNat).map bitsD) :=
 settings_spec F.se n (by have:=ok.s1; omega) ok.s2 S
noncomputable def b1 (b:Bool):Int:=if b then 1 else 0
theorem Net.d_eq (N:Net):N.d=.tup [.int N.sw,.int N.pl,.tup (N.cs.map Ct.d)]:=rfl
noncomputable def Ct.mv (f:Int→Int) (c:Ct):Ct:=⟨if f c.b<f c.a then f c.b else f c.a,if f c.b>f c.a then f c.b else f c.a,c.k,c.o⟩
noncomputable def Net.cutN (N:Net) (i:Nat):Net:=⟨N.sw,N.pl,N.cs.take i++N.cs.drop (i+1)⟩
theorem cut_ok {ms mp mc:Int}{N:Net} (ok:N.ok ms mp mc) (i:Nat):(N.cutN i).ok ms mp mc:=by
 have:=ok.c1
 refine ⟨ok.s1,ok.s2,ok.p1,ok.p2,?_,fun c hc=>?_⟩
 ·show ((N.cs.take i++N.cs.drop (i+1)).length:Int)≤mc
  rw [List.length_append,List.length_take,List.length_drop]; omega
 ·rcases List.mem_append.mp hc with q | q
  ·exact ok.c2 c (List.mem_of_mem_take q)
  ·exact ok.c2 c (List.mem_of_mem_drop q)
theorem cut_d (N:Net) (i:Nat):(N.cutN i).d=.tup [.int N.sw,.int N.pl,.tup ((N.cs.map Ct.d).take i++(N.cs.map Ct.d).drop (i+1))]:=by
 show D.tup [.int N.sw,.int N.pl,.tup ((N.cs.take i++N.cs.drop (i+1)).map Ct.d)]=_
 rw [List.map_append,List.map_take,List.map_drop]
theorem cut_parts (R:List D) (i:Nat):cutD R none (some (i:Int))=R.take i∧cutD R (some ((i:Int)+1)) none=R.drop (i+1):=by
 refine ⟨?_,?_⟩
 ·rw [cutD_take _ (by omega)]; simp
 ·rw [cutD_drop _ (by omega)]; congr 1
theorem cut_len (R:List D) (i:Nat) (h:R.length≤100):(R.take i).length+(R.drop (i+1)).length≤lim:=by
 rw [lim_eq]; simp; omega
theorem refuse_contact_spec (h:Hs_refuse_no_contact cl) (hw:Hs_is_whole cl) (n:Nat) {N:Net}{i:Nat} (hi:i<N.cs.length) (S:Store):cl (n+2) "refuse_no_contact" [N.d,.int (i:Int)] S=.ok .non S:=by
 have e1:=is_whole_spec hw n (scal_int (i:Int)) S
 rw [show isIntD (.int (i:Int))=true from rfl] at e1
 rw [show n+2=(n+1)+1 from rfl,h]
 refine run_nx rfl (ρ:=[some N.d,some (.int (i:Int))]) ?_
 have h0:(0:Int)≤(i:Int):=by omega
 have h1:(i:Int)<((N.cs.map Ct.d).length:Int):=by rw [List.length_map]; omega
 rw [Net.d_eq]
 generalize (i:Int)=I at *
 generalize N.cs.map Ct.d=R at *
 simp [b_refuse_no_contact,startE,e1,h0,h1]
theorem cut_spec (h:Hs_cut cl) (hr:Hs_refuse_no_contact cl) (hw:Hs_is_whole cl) (n:Nat) {N:Net} (hl:N.cs.length≤100) {i:Nat} (hi:i<N.cs.length) (S:Store):cl (n+3) "cut" [N.d,.int (i:Int)] S=.ok (N.cutN i).d S:=by
 have e1:=refuse_contact_spec hr hw n hi S
 rw [show n+3=(n+2)+1 from rfl,h]
 refine run_rt rfl ?_
 rw [cut_d]
 rw [Net.d_eq] at e1 ⊢
 have hR:(N.cs.map Ct.d).length≤100:=by rw [List.length_map]; exact hl
 generalize N.cs.map Ct.d=R at *
 obtain ⟨c1,c2⟩:=cut_parts R i
 have cl':=cut_len R i hR
 generalize R.take i=R1 at *
 generalize R.drop (i+1)=R2 at *
 generalize (i:Int)=I at *
 simp [b_cut,startE,e1,c1,c2,cl']
structure HI (cl:Nat→CLL):Prop where
 F:HF cl
 fu:Hs_first_unlike cl
 al:Hs_are_alike cl
 wh:Hs_is_whole cl
 rc:Hs_refuse_no_contact cl
 cu:Hs_cut cl
 ii:Hs_is_idle cl
 id:Hs_idle cl
theorem lets_iff {N:Net}{st:List Int}:letsB N st=true↔∀ C:Int→Prop,C 0→(∀ c∈N.cs,shutB c st=true→(C c.a↔C c.b))→C 1:=by
 unfold letsB
 rw [jB_iff]
 unfold Joined ends
 constructor
 ·intro h C c0 cc
  refine h C c0 fun e he=>?_
  obtain ⟨c,hc,rfl⟩:=List.mem_map.mp he
  rw [List.mem_filter] at hc
  exact cc c hc.1 hc.2
 ·intro h C c0 cc
  refine h C c0 fun c hc hs=>?_
  exact cc (c.a,c.b) (List.mem_map.mpr ⟨c,List.mem_filter.mpr ⟨hc,hs⟩,rfl⟩)
noncomputable def rowF1 (mid:Int) (p:Int):Int:=if p=1 then mid else p
noncomputable def rowF2 (p1 mid:Int) (k:Int):Int:=if k=0 then mid else if k=1 then 1 else k+p1 - 2
noncomputable def Net.row (N M:Net):Net:=⟨N.sw,N.pl+M.pl - 2+1,N.cs.map (Ct.mv (rowF1 (N.pl+M.pl - 2)))++M.cs.map (Ct.mv (rowF2 N.pl (N.pl+M.pl - 2)))⟩
end My
namespace L2
open PySem
structure ShOk (B:Nat) (p:PyData) (z:Nat):Prop where
 can:p.canLay0=true
 dep:p.depth≤B
 sh:p.showable=true
 ish:p.intsShort 13=true
 w:p.weight≤41*z+40
end L2
namespace My
open PySem L2
variable {cl:Nat→CLL}
inductive Tr where
 | lf (k o:Int)
 | nd (r:Bool) (ps:List Tr)
noncomputable def kw (r:Bool):Str:=if r then Str.ofString "row" else Str.ofString "side"
mutual
noncomputable def Tr.ht:Tr→Nat
 | .lf _ _=>0
 | .nd _ ps=>Tr.hts ps+1
noncomputable def Tr.hts:List Tr→Nat
 | []=>0
 | t::r=>max t.ht (Tr.hts r)
end
mutual
noncomputable def Tr.sz:Tr→Nat
 | .lf _ _=>1
 | .nd _ ps=>Tr.szs ps+1
noncomputable def Tr.szs:List Tr→Nat
 | []=>0
 | t::r=>t.sz+Tr.szs r
end
@[simp] theorem oEq_str (a b:Str) (S:Store):oEq (.str a) (.str b) S=.ok (.bl (decide (a=b))) S:=rfl
open PySem L2
variable {cl:Nat→CLL}
noncomputable def Tr.un (r:Bool):Tr→List Tr
 | .nd r' qs=>if r'=r then qs else [.nd r' qs]
 | .lf k o=>[.lf k o]
noncomputable def isNd (r:Bool):Tr→Bool
 | .nd r' _=>r' == r
 | .lf _ _=>false
open PySem L2
variable {cl:Nat→CLL}
structure FlOk (r:Bool) (T L:List Tr):Prop where
 fm:L.flatMap (Tr.un r)=T
 no:∀ qs,Tr.nd r qs∈L→∀ q∈qs,isNd r q=false
 sz:Tr.szs L≤1000
 ht:Tr.hts L≤17
open PySem L2
variable {cl:Nat→CLL}
def kd (S:Store) (d:D):Prop:=∃ t,kindD S d=some t
noncomputable def isT:D→Bool | .tup _=>true | _=>false
noncomputable def isI:D→Bool | .int _=>true | .bl _=>true | _=>false
noncomputable def isB:D→Bool | .bl _=>true | _=>false
noncomputable def isS:D→Bool | .str _=>true | _=>false
theorem kd_int (S:Store) (i:Int):kd S (.int i):=⟨_,rfl⟩
theorem kd_tup (S:Store) (xs:List D):kd S (.tup xs):=⟨_,rfl⟩
theorem kd_lst {S:Store}{k:Nat} (h:(lstAt S k).isSome):kd S (.lst k):=⟨"list",by show (if (lstAt S k).isSome then some "list" else none)=_; rw [if_pos h]⟩
theorem lst_kd {S:Store}{k:Nat} (h:kd S (.lst k)):kindD S (.lst k)=some "list":=by
 obtain ⟨t,h⟩:=h
 have h':(if (lstAt S k).isSome then some "list" else none)=some t:=h
 show (if (lstAt S k).isSome then some "list" else none)=_
 split at h'
 ·rename_i hh; rw [if_pos hh]
 ·cases h'
theorem dct_kd {S:Store}{k:Nat} (h:kd S (.dct k)):kindD S (.dct k)=some "dict":=by
 obtain ⟨t,h⟩:=h
 have h':dictK S k=some t:=h
 show dictK S k=_
 unfold dictK at h'
 split at h'
 ·rename_i kvs e
  unfold dictK
  rw [e]
 ·cases h'
theorem inst_of {S:Store}{x:D}{t T:String} (h:kindD S x=some t) (hT:T∈["bool","int","tuple","list","str","dict"]):fInst [x,.ty T] S=.ok (.bl (kOf t T)) S:=by
 unfold fInst
 dsimp only
 rw [h]
 dsimp only
 rw [if_pos hT]
theorem inst_T {S:Store}{x:D} (h:kd S x):fInst [x,.ty "tuple"] S=.ok (.bl (isT x)) S:=by
 cases x with
 | lst k=>rw [inst_of (lst_kd h) (by decide)]; rfl
 | dct k=>rw [inst_of (dct_kd h) (by decide)]; rfl
 | ty k=>obtain ⟨t,h⟩:=h; cases h
 | rol k=>obtain ⟨t,h⟩:=h; cases h
 | _=>rw [inst_of rfl (by decide)]; rfl
theorem inst_I {S:Store}{x:D} (h:kd S x):fInst [x,.ty "int"] S=.ok (.bl (isI x)) S:=by
 cases x with
 | lst k=>rw [inst_of (lst_kd h) (by decide)]; rfl
 | dct k=>rw [inst_of (dct_kd h) (by decide)]; rfl
 | ty k=>obtain ⟨t,h⟩:=h; cases h
 | rol k=>obtain ⟨t,h⟩:=h; cases h
 | _=>rw [inst_of rfl (by decide)]; rfl
theorem inst_B {S:Store}{x:D} (h:kd S x):fInst [x,.ty "bool"] S=.ok (.bl (isB x)) S:=by
 cases x with
 | lst k=>rw [inst_of (lst_kd h) (by decide)]; rfl
 | dct k=>rw [inst_of (dct_kd h) (by decide)]; rfl
 | ty k=>obtain ⟨t,h⟩:=h; cases h
 | rol k=>obtain ⟨t,h⟩:=h; cases h
 | _=>rw [inst_of rfl (by decide)]; rfl
noncomputable def whD (lo hi:Int):D→Bool
 | .int i=>decide (lo≤i)&&decide (i<hi)
 | _=>false
noncomputable def isW:D→Bool
 | .int _=>true
 | _=>false
theorem is_whole_any (h:Hs_is_whole cl) (n:Nat) {S:Store}{x:D} (hk:kd S x):cl (n+1) "is_whole" [x] S=.ok (.bl (isW x)) S:=by
 rw [h]
 refine run_rt rfl ?_
 have e1:=inst_I hk
 have e2:=inst_B hk
 have z:isW x=(if isI x=true then !isB x else false):=by cases x <;> rfl
 rw [z]
 cases hb:isI x <;> cases hc:isB x <;> rw [hb] at e1 <;> rw [hc] at e2 <;> simp [b_is_whole,startE,e1,e2]
theorem is_bit_any (h:Hs_is_bit cl) (hw:Hs_is_whole cl) (n:Nat) {S:Store}{x:D} (hk:kd S x):cl (n+2) "is_bit" [x] S=.ok (.bl (whD 0 2 x)) S:=by
 rw [show n+2=(n+1)+1 from rfl,h]
 refine run_rt rfl ?_
 have e1:=is_whole_any hw n hk
 cases x with
 | int i =>
  have e1':cl (n+1) "is_whole" [.int i] S=.ok (.bl true) S:=e1
  have:whD 0 2 (.int i)=(decide (0≤i)&&decide (i≤1)):=by
   show (decide (0≤i)&&decide (i<2))=_
   congr 1
   exact decide_eq_decide.mpr (by omega)
  rw [this]
  by_cases h0:0≤i <;> by_cases h1:i≤1 <;> simp [b_is_bit,startE,e1',h0,h1]
 | _=>simp [b_is_bit,startE,e1,isW,whD]
def Kd (S S1:Store):Prop:=∀ d,kd S d→kd S1 d
theorem kd_ex {S S1:Store} (h:Ex S S1):Kd S S1:=fun d hd=>by
 cases d with
 | lst k =>
  refine kd_lst ?_
  have hk:(lstAt S k).isSome:=by
   obtain ⟨t,e⟩:=hd
   have e':(if (lstAt S k).isSome then some "list" else none)=some t:=e
   split at e'
   ·assumption
   ·cases e'
  obtain ⟨xs,hx⟩:=Option.isSome_iff_exists.mp hk
  rw [h.lst hx fun z=>z]; rfl
 | dct k =>
  obtain ⟨t,e⟩:=hd
  have e:dictK S k=some t:=e
  unfold dictK at e
  split at e
  ·rename_i kvs ho
   exact ⟨"dict",by show dictK S1 k=_; unfold dictK; rw [h.at ho fun z=>z]⟩
  ·cases e
 | ty k=>obtain ⟨t,e⟩:=hd; cases e
 | rol k=>obtain ⟨t,e⟩:=hd; cases e
 | _=>exact ⟨_,rfl⟩
open PySem L2
variable {cl:Nat→CLL}
noncomputable def sE (x:Str):D→Bool
 | .str y=>decide (y=x)
 | _=>false
def Sn (d:D):Prop:=∃ p,(∀ S,snap 40 S d=some p)∧(∀ x,p=.str x→d=.str x)∧(isS d=false→flat d=none→∃ xs,d=.tup xs)
theorem eqv_str_no {p:PyData}{x:Str} (h:∀ y,p≠.str y):PyData.eqv p (.str x)=false∧PyData.eqv (.str x) p=false:=by
 cases p with
 | str y=>exact absurd rfl (h y)
 | _=>exact ⟨rfl,rfl⟩
theorem ne_str {d:D}{x:Str} (h:Sn d) (hx:PyData.strOk x=true) (S:Store):oEq d (.str x) S=.ok (.bl (sE x d)) S∧oNe d (.str x) S=.ok (.bl (!sE x d)) S:=by
 obtain ⟨p,h1,h2,_⟩:=h
 cases d with
 | str y=>exact ⟨rfl,rfl⟩
 | _ =>
  have hp:∀ y,p≠.str y:=fun y e=>by have:=h2 y e; cases this
  have hs:snap 40 S (.str x)=some (.str x):=by unfold snap; dsimp only; rw [if_pos hx]
  have:=(eqv_str_no (x:=x) hp).1
  unfold oEq oNe
  dsimp only
  rw [h1 S,hs]
  dsimp only
  rw [this]
  exact ⟨rfl,rfl⟩
open PySem L2 Mt
variable {cl:Nat→CLL}
noncomputable def pB (p:Prop):Bool:=@decide p (Classical.propDecidable p)
theorem pB_iff {p:Prop}:pB p=true↔p:=@decide_eq_true_iff p (Classical.propDecidable p)
theorem pB_t {p:Prop} (h:p):pB p=true:=pB_iff.mpr h
theorem pB_f {p:Prop} (h:¬ p):pB p=false:=by
 cases q:pB p with
 | false=>rfl
 | true=>exact absurd (pB_iff.mp q) h
theorem pB_of {p:Prop}{b:Bool} (h:b=true↔p):b=pB p:=bool_ext (h.trans pB_iff.symm)
noncomputable def Nk (S:Store):Nat→D→Prop
 | 0,d=>kd S d
 | n+1,d=>kd S d∧∀ xs,d=.tup xs→xs.length≤1000∧∀ x∈xs,Nk S n x
theorem Nk.k {S:Store}{n:Nat}{d:D} (h:Nk S n d):kd S d:=by
 cases n with
 | zero=>exact h
 | succ n=>exact h.1
theorem boolsOf_f (f:D→Bool):∀ l:List D,boolsOf (l.map fun d=>D.bl (f d))=some (l.map f)
 | []=>rfl
 | _::r=>by
  show (boolsOf (r.map fun d=>D.bl (f d))).map (_::·)=_
  rw [boolsOf_f f r]; rfl
theorem fBools_lst {S:Store}{n:Nat} (g:List Bool→Bool) (f:D→Bool) (l:List D) (h:lstAt S n=some (l.map fun d=>D.bl (f d))):fBools g [.lst n] S=.ok (.bl (g (l.map f))) S:=by
 unfold fBools
 dsimp only
 rw [h]
 show (match boolsOf (l.map fun d=>D.bl (f d)) with | some bs=>R.ok (D.bl (g bs)) S | none=>.bad)=_
 rw [boolsOf_f]
theorem all_ex {α:Type} (e:α→D) (Q:α→Prop):∀ xs:List D,((xs.map fun d=>pB (∃ l,d=e l∧Q l)).all id=true)↔∃ r:List α,xs=r.map e∧∀ l∈r,Q l
 | []=>⟨fun _=>⟨[],rfl,fun l hl=>by cases hl⟩,fun _=>rfl⟩
 | x::xs=>by
  rw [List.map_cons,List.all_cons,Bool.and_eq_true,all_ex e Q xs]
  show pB _=true∧_↔_
  rw [pB_iff]
  constructor
  ·rintro ⟨⟨l,rfl,q⟩,r,rfl,qs⟩
   exact ⟨l::r,rfl,fun z hz=>by rcases List.mem_cons.mp hz with rfl | hz; exact q; exact qs z hz⟩
  ·rintro ⟨r,e1,q⟩
   cases r with
   | nil=>cases e1
   | cons l r =>
    rw [List.map_cons] at e1
    injection e1 with e1 e2
    exact ⟨⟨l,e1,q l (by simp)⟩,r,e2,fun z hz=>q z (by simp [hz])⟩
def okF (sw:Int) (l:List Int):Prop:=l.length=2 ^ sw.toNat∧∀ i∈l,0≤i∧i<2
def fnP (sw:Int) (d:D):Prop:=∃ l,d=bitsD l∧okF sw l
theorem wh_all (xs:List D):((xs.map (whD 0 2)).all id=true)↔∃ l:List Int,xs=l.map D.int∧∀ i∈l,0≤i∧i<2:=by
 have:xs.map (whD 0 2)=xs.map fun d=>pB (∃ i,d=D.int i∧(0≤i∧i<2)):=List.map_congr_left fun d _=>pB_of (by
  cases d with
  | int i=>show (decide (0≤i)&&decide (i<2))=true↔_; rw [Bool.and_eq_true,decide_eq_true_eq,decide_eq_true_eq]; exact ⟨fun h=>⟨i,rfl,h⟩,fun ⟨j,e,h⟩=>by cases e; exact h⟩
  | _=>exact ⟨fun h=>(by cases h),fun ⟨j,e,_⟩=>(by cases e)⟩)
 rw [this]
 exact all_ex D.int _ xs
theorem fnP_tup {sw:Int}{xs:List D} (h:xs.length=2 ^ sw.toNat):fnP sw (.tup xs)↔(xs.map (whD 0 2)).all id=true:=by
 rw [wh_all]
 constructor
 ·rintro ⟨l,e,o⟩
  exact ⟨l,by cases e; rfl,o.2⟩
 ·rintro ⟨l,rfl,o⟩
  exact ⟨l,rfl,by rw [List.length_map] at h; exact h,o⟩
theorem fnP_len {sw:Int}{xs:List D} (h:fnP sw (.tup xs)):xs.length=2 ^ sw.toNat:=by
 obtain ⟨l,e,o⟩:=h
 cases e
 rw [List.length_map]; exact o.1
theorem fnP_no {sw:Int}{d:D} (h:isT d=false):¬ fnP sw d:=by
 rintro ⟨l,rfl,_⟩
 cases h
structure HB (cl:Nat→CLL):Prop where
 se:Hs_settings cl
 wh:Hs_is_whole cl
 bi:Hs_is_bit cl
 fn:Hs_is_function cl
theorem fn_run (c:CLL) {sw q len:Int}{k:Nat}{xs bs:List D}{S S1 S2 S3:Store}{b:Bool} (hl:(xs.length:Int)=len) (e1:c "settings" [.int sw] S=.ok (.lst k) S1) (e2:fLen [.lst k] S1=.ok (.int q) S1) (hq:len=q) (hx:xs.length<lim) (e3:loopC [] .one (fun _=>ret true) (is_function_e1 c) [none] xs S1=.ok bs S2) (h3:S2++[.lst bs]=S3) (e4:fBools (fun bs=>bs.all id) [.lst S2.length] S3=.ok (.bl b) S3) :
  b_is_function c [some (.int sw),some (.tup xs)] S=.rt (.bl b) S3:=by
 simp [b_is_function,hl,e1,e2,hq,hx,e3,h3,e4]
theorem fn_run0 (c:CLL) {sw q len:Int}{k:Nat}{xs:List D}{S S1:Store} (hl:(xs.length:Int)=len) (e1:c "settings" [.int sw] S=.ok (.lst k) S1) (e2:fLen [.lst k] S1=.ok (.int q) S1) (hq:¬ len=q) :
  b_is_function c [some (.int sw),some (.tup xs)] S=.rt (.bl false) S1:=by
 simp [b_is_function,hl,e1,e2,hq]
theorem is_function_any (H:HB cl) (n:Nat) {sw:Int} (h1:1≤sw) (h4:sw≤4) {S:Store}{d:D} (hk:Nk S 1 d):Spc (cl (n+3) "is_function" [.int sw,d] S) ((.bl (pB (fnP sw d)))) S:=by
 rw [show n+3=(n+2)+1 from rfl,H.fn]
 have e0:=inst_T hk.k
 cases d with
 | tup xs =>
  obtain ⟨k,S1,e1,x1,_,lk⟩:=settings_spec H.se (n+1) (by omega) h4 S
  have e2:=fLen_lst lk
  rw [List.length_map,sett_len] at e2
  obtain ⟨hl,hx⟩:=hk.2 xs rfl
  by_cases hq:xs.length=2 ^ sw.toNat
  ·have e3:loopC [] .one (fun _=>ret true) (is_function_e1 (cl (n+2))) [none] (xs.map id) S1=.ok (xs.map fun d=>.bl (whD 0 2 d)) S1:=by
    refine comp_pureM id (okW_nil _) (fun d=>.bl (whD 0 2 d)) xs fun d hd=>⟨_,rfl,?_⟩
    have:=is_bit_any H.bi H.wh n (kd_ex x1 d (hx d hd))
    simp [is_function_e1]
    exact this
   rw [List.map_id] at e3
   have e4:=fBools_lst (S:=S1++[.lst (xs.map fun d=>.bl (whD 0 2 d))]) (n:=S1.length) (fun bs=>bs.all id) (whD 0 2) xs (lstAt_new _ _)
   refine ⟨_,run_rt rfl ?_,x1.trans (ex_app S1 [.lst (xs.map fun d=>.bl (whD 0 2 d))])⟩
   rw [← pB_of (fnP_tup hq).symm]
   exact fn_run _ rfl e1 e2 (by rw [hq]) (by rw [lim_eq]; omega) e3 rfl e4
  ·refine ⟨S1,run_rt rfl ?_,x1⟩
   rw [pB_f fun z=>hq (fnP_len z)]
   exact fn_run0 _ rfl e1 e2 (by intro z; exact hq (by exact_mod_cast z))
 | _ =>
  refine ⟨S,run_rt rfl ?_,Kp.refl _ _⟩
  rw [pB_f (fnP_no rfl)]
  simp [b_is_function,startE,e0,isT]
open PySem L2 Mt
variable {cl:Nat→CLL}
theorem Nk.kd {S S1:Store} (h:Kd S S1):∀ {n:Nat}{d:D},Nk S n d→Nk S1 n d
 | 0,d,g=>h d g
 | n+1,d,g=>⟨h d g.1,fun xs e=>⟨(g.2 xs e).1,fun x hx=>Nk.kd h ((g.2 xs e).2 x hx)⟩⟩
noncomputable def rowD (r:List (List Int)):D:=.tup (r.map bitsD)
def okR (sw:Int) (p:Nat) (r:List (List Int)):Prop:=r.length=p∧∀ l∈r,okF sw l
def rowP (sw:Int) (p:Nat) (d:D):Prop:=∃ r,d=rowD r∧okR sw p r
theorem rowP_tup {sw:Int}{p:Nat}{xs:List D} (h:xs.length=p):rowP sw p (.tup xs)↔(xs.map fun d=>pB (fnP sw d)).all id=true:=by
 unfold fnP
 rw [all_ex bitsD (okF sw) xs]
 constructor
 ·rintro ⟨r,e,o⟩
  exact ⟨r,by cases e; rfl,o.2⟩
 ·rintro ⟨r,rfl,o⟩
  exact ⟨r,rfl,by rw [List.length_map] at h; exact h,o⟩
theorem rowP_len {sw:Int}{p:Nat}{xs:List D} (h:rowP sw p (.tup xs)):xs.length=p:=by
 obtain ⟨r,e,o⟩:=h
 cases e
 rw [List.length_map]; exact o.1
theorem rowP_no {sw:Int}{p:Nat}{d:D} (h:isT d=false):¬ rowP sw p d:=by
 rintro ⟨r,rfl,_⟩
 cases h
theorem row_run1 (c:CLL) {sw p:Int}{xs bs:List D}{S S2 S3:Store}{b:Bool} (hl:(xs.length:Int)=p) (hx:xs.length<lim) (e3:loopC [] .one (fun _=>ret true) (is_row_e1 c) [none,some (.int sw)] xs S=.ok bs S2) (h3:S2++[.lst bs]=S3) (e4:fBools (fun bs=>bs.all id) [.lst S2.length] S3=.ok (.bl b) S3) :
  b_is_row c [some (.int sw),some (.int p),some (.tup xs)] S=.rt (.bl b) S3:=by
 simp [b_is_row,hl,hx,e3,h3,e4]
theorem row_run0 (c:CLL) {sw p len:Int}{xs:List D}{S:Store} (hl:(xs.length:Int)=len) (hq:¬ len=p) :
  b_is_row c [some (.int sw),some (.int p),some (.tup xs)] S=.rt (.bl false) S:=by
 simp [b_is_row,hl,hq]
theorem is_row_any (h:Hs_is_row cl) (H:HB cl) (n:Nat) {sw:Int} (h1:1≤sw) (h4:sw≤4) (p:Nat) {S:Store}{d:D} (hk:Nk S 2 d):Spc (cl (n+4) "is_row" [.int sw,.int (p:Nat),d] S) ((.bl (pB (rowP sw p d)))) S:=by
 rw [show n+4=(n+3)+1 from rfl,h]
 have e0:=inst_T hk.k
 cases d with
 | tup xs =>
  obtain ⟨hl,hx⟩:=hk.2 xs rfl
  by_cases hq:xs.length=p
  ·obtain ⟨S2,e3,x3⟩:=comp_map (w:=[]) (t:=.one) (c:=is_row_e1 (cl (n+3))) (ρ0:=[none,some (.int sw)]) (fun S'=>Ex S S') (fun _ _=>okW_nil _) xs (fun d=>.bl (pB (fnP sw d))) (Kp.refl _ _)
    (fun d hd S' x=>by
     obtain ⟨S2,e2,x2⟩:=is_function_any H n h1 h4 ((hx d hd).kd (kd_ex x))
     exact ⟨_,rfl,S2,by simp [is_row_e1]; exact e2,x.trans x2⟩)
   have e4:=fBools_lst (S:=S2++[.lst (xs.map fun d=>.bl (pB (fnP sw d)))]) (n:=S2.length) (fun bs=>bs.all id) (fun d=>pB (fnP sw d)) xs (lstAt_new _ _)
   refine ⟨_,run_rt rfl ?_,x3.trans (ex_app S2 [.lst (xs.map fun d=>.bl (pB (fnP sw d)))])⟩
   rw [← pB_of (rowP_tup hq).symm]
   exact row_run1 _ (by rw [hq]) (by rw [lim_eq]; omega) e3 rfl e4
  ·refine ⟨S,run_rt rfl ?_,Kp.refl _ _⟩
   rw [pB_f fun z=>hq (rowP_len z)]
   exact row_run0 _ rfl (by intro z; exact hq (by exact_mod_cast z))
 | _ =>
  refine ⟨S,run_rt rfl ?_,Kp.refl _ _⟩
  rw [pB_f (rowP_no rfl)]
  simp [b_is_row,startE,e0,isT]
noncomputable abbrev Tb:=List (List (List Int))
noncomputable def tD (T:Tb):D:=.tup (T.map rowD)
def okT (sw:Int) (T:Tb):Prop:=2≤T.length∧T.length≤7∧∀ r∈T,okR sw T.length r
noncomputable def ent (T:Tb) (a b:Nat):List Int:=(T.getD a []).getD b []
def gdT (T:Tb):Prop:=(∀ a,a<T.length→0∉ent T a a)∧∀ a,a<T.length→∀ b,b<a→ent T a b=ent T b a
def tabP (sw:Int) (d:D):Prop:=∃ T,d=tD T∧okT sw T∧gdT T
theorem row_at {sw:Int}{T:Tb} (ok:okT sw T) {a:Nat} (ha:a<T.length):T[a]?=some (T.getD a [])∧okR sw T.length (T.getD a []):=by
 have:T.getD a []=T[a]:=by rw [List.getD_eq_getElem?_getD,List.getElem?_eq_getElem ha]; rfl
 rw [this]
 exact ⟨List.getElem?_eq_getElem ha,ok.2.2 _ (List.getElem_mem ha)⟩
theorem ent_at {sw:Int}{T:Tb} (ok:okT sw T) {a b:Nat} (ha:a<T.length) (hb:b<T.length):(T.getD a [])[b]?=some (ent T a b)∧okF sw (ent T a b):=by
 obtain ⟨_,l,o⟩:=row_at ok ha
 have hb':b<(T.getD a []).length:=by rw [l]; exact hb
 have:ent T a b=(T.getD a [])[b]:=by unfold ent; rw [List.getD_eq_getElem?_getD,List.getElem?_eq_getElem hb']; rfl
 rw [this]
 exact ⟨List.getElem?_eq_getElem hb',o _ (List.getElem_mem hb')⟩
theorem ix_row {sw:Int}{T:Tb} (ok:okT sw T) {a:Nat} (ha:a<T.length) (S:Store):oIx (tD T) (.int (a:Nat)) S=.ok (rowD (T.getD a [])) S:=by
 unfold tD
 rw [oIx_tup,atI_nat (show (T.map rowD)[a]?=some (rowD (T.getD a [])) by rw [List.getElem?_map,(row_at ok ha).1]; rfl)]
theorem ix_ent {sw:Int}{T:Tb} (ok:okT sw T) {a b:Nat} (ha:a<T.length) (hb:b<T.length) (S:Store):oIx (rowD (T.getD a [])) (.int (b:Nat)) S=.ok (bitsD (ent T a b)) S:=by
 unfold rowD
 rw [oIx_tup,atI_nat (show ((T.getD a []).map bitsD)[b]?=some (bitsD (ent T a b)) by rw [List.getElem?_map,(ent_at ok ha hb).1]; rfl)]
theorem bitsD_inj {l m:List Int} (h:bitsD l=bitsD m):l=m:=by
 have h':l.map D.int=m.map D.int:=by injection h
 exact (List.map_inj_right fun a b e=>by injection e).mp h'
theorem bits_plain (l:List Int):plain 40 (bitsD l)=true:=plain_tup (plain_ints (by decide) l)
theorem ne_bits (l m:List Int) (S:Store):oNe (bitsD l) (bitsD m) S=.ok (.bl (!pB (l=m))) S:=by
 rw [oNe_plain S (bits_plain l) (bits_plain m)]
 have:eqB (bitsD l) (bitsD m)=pB (l=m):=pB_of (eqB_iff.trans ⟨bitsD_inj,fun e=>by rw [e]⟩)
 rw [this]
theorem sb_run2 (c:CLL) {Td ra rb la lb:D}{a b:Int}{S:Store}{k:Bool} (e1:oIx Td (.int a) S=.ok ra S) (e2:oIx ra (.int b) S=.ok la S) (e3:oIx Td (.int b) S=.ok rb S) (e4:oIx rb (.int a) S=.ok lb S) (e5:oNe la lb S=.ok (.bl (!k)) S) :
  same_both_ways_l2 c [some Td,some (.int a),some (.int b)] S=if k=true then .nx [some Td,some (.int a),some (.int b)] S else .rt (.bl false) S:=by
 cases k <;> simp at e5 <;> simp [same_both_ways_l2,e1,e2,e3,e4,e5]
theorem sb_run1 (c:CLL) {Td:D}{w:Option D}{z:Int}{a:Nat}{S:Store}{r:RS} (f1:-4611686018427387904≤z) (f2:z<4611686018427387904) (ta:z.toNat=a) (hr:loopS [] (gN 2) (same_both_ways_l2 c) (upD 0 a) [some Td,some (.int z),w] S=r) :
  same_both_ways_l1 c [some Td,some (.int z),w] S=sb r sPass .mk:=by
 simp [same_both_ways_l1,f1,f2,ta,hr]
theorem sb_run0 (c:CLL) {Td:D}{z:Int}{a:Nat}{S:Store}{r:RS} (fl:fLen [Td] S=.ok (.int z) S) (f1:-4611686018427387904≤z) (f2:z<4611686018427387904) (ta:z.toNat=a) (hr:loopS [] (gN 1) (same_both_ways_l1 c) (upD 0 a) [some Td,none,none] S=r) :
  b_same_both_ways c [some Td,none,none] S=sb r (sSeq (sRet (cCon (.bl true))) sPass) .mk:=by
 simp only [b_same_both_ways]
 rw [sSeq_ev]
 congr 1
 simp [fl,f1,f2,ta,hr]
theorem same_both_spec (h:Hs_same_both_ways cl) (n:Nat) {sw:Int}{T:Tb} (ok:okT sw T) (S:Store):cl (n+1) "same_both_ways" [tD T] S=.ok (.bl (pB (∀ a,a<T.length→∀ b,b<a→ent T a b=ent T b a))) S:=by
 rw [h]
 obtain ⟨Td,hTd⟩:∃ Td,Td=tD T:=⟨_,rfl⟩
 have hl7:=ok.2.1
 have inner:∀ (a:Nat),a<T.length→∀ (v2:Option D),(∃ w,loopS [] (gN 2) (same_both_ways_l2 (cl n)) (upD 0 a) [some Td,some (.int (a:Nat)),v2] S=.nx [some Td,some (.int (a:Nat)),w] S∧∀ b,b<a→ent T a b=ent T b a)∨(loopS [] (gN 2) (same_both_ways_l2 (cl n)) (upD 0 a) [some Td,some (.int (a:Nat)),v2] S=.rt (.bl false) S∧¬ ∀ b,b<a→ent T a b=ent T b a):=fun a ha v2=>by
  have up:upD 0 a=(List.range a).map fun (b:Nat)=>D.int (b:Nat):=by
   unfold upD; exact List.map_congr_left fun b _=>by simp
  rw [up]
  rcases loop_find (fun (b:Nat)=>D.int (b:Nat)) (w:=[]) (g:=gN 2) (b:=same_both_ways_l2 (cl n)) (fun ρ S'=>∃ w,ρ=[some Td,some (.int (a:Nat)),w]∧S'=S) (fun S'=>S'=S) (fun _ _ _=>okW_nil _) (fun b=>!pB (ent T a b=ent T b a)) (fun _=>.bl false) (List.range a) (ρ:=[some Td,some (.int (a:Nat)),v2]) (S:=S) ⟨v2,rfl,rfl⟩
   (fun b hb ρ S' hp=>by
    obtain ⟨w,rfl,rfl⟩:=hp
    have hb':=List.mem_range.mp hb
    refine ⟨[some Td,some (.int (a:Nat)),some (.int (b:Nat))],S',rfl,?_⟩
    have e:=sb_run2 (cl n) (Td:=Td) (by rw [hTd]; exact ix_row ok ha S') (ix_ent ok ha (by omega) S') (by rw [hTd]; exact ix_row ok (show b<T.length by omega) S') (ix_ent ok (by omega) ha S') (ne_bits (ent T a b) (ent T b a) S')
    cases q:pB (ent T a b=ent T b a) with
    | true=>rw [q,if_pos rfl] at e; exact .inr ⟨rfl,_,S',.inl e,_,rfl,rfl⟩
    | false=>rw [q,if_neg Bool.false_ne_true] at e; exact .inl ⟨rfl,S',e,rfl⟩) with ⟨b,S',f1,f2,rfl⟩ | ⟨ρ',S',f1,f2,w,rfl,rfl⟩
  ·refine .inr ⟨f2,fun z=>?_⟩
   have hb:=List.mem_range.mp (List.mem_of_find?_eq_some f1)
   have q:=List.find?_some f1
   rw [pB_t (z b hb)] at q
   cases q
  ·refine .inl ⟨w,f2,fun b hb=>?_⟩
   have:=List.find?_eq_none.mp f1 b (List.mem_range.mpr hb)
   cases q:pB (ent T a b=ent T b a) with
   | true=>exact pB_iff.mp q
   | false=>rw [q] at this; exact absurd rfl this
 have up:upD 0 T.length=(List.range T.length).map fun (b:Nat)=>D.int (b:Nat):=by
  unfold upD; exact List.map_congr_left fun b _=>by simp
 have outer:=loop_find (fun (a:Nat)=>D.int (a:Nat)) (w:=[]) (g:=gN 1) (b:=same_both_ways_l1 (cl n)) (fun ρ S'=>∃ v w,ρ=[some Td,v,w]∧S'=S) (fun S'=>S'=S) (fun _ _ _=>okW_nil _) (fun a=>!pB (∀ b,b<a→ent T a b=ent T b a)) (fun _=>.bl false) (List.range T.length) (ρ:=[some Td,none,none]) (S:=S) ⟨_,_,rfl,rfl⟩
  (fun a ha ρ S' hp=>by
   obtain ⟨v,w,rfl,rfl⟩:=hp
   have ha':=List.mem_range.mp ha
   refine ⟨[some Td,some (.int (a:Nat)),w],S',rfl,?_⟩
   have run:∀ r:RS,loopS [] (gN 2) (same_both_ways_l2 (cl n)) (upD 0 a) [some Td,some (.int (a:Nat)),w] S'=r→same_both_ways_l1 (cl n) [some Td,some (.int (a:Nat)),w] S'=sb r sPass .mk:=fun r hr=>sb_run1 _ (by omega) (by omega) (by omega) hr
   rcases inner a ha' w with ⟨w',e,z⟩ | ⟨e,z⟩
   ·exact .inr ⟨by rw [pB_t z]; rfl,_,S',.inl (by rw [run _ e]; rfl),_,_,rfl,rfl⟩
   ·exact .inl ⟨by rw [pB_f z]; rfl,S',by rw [run _ e]; rfl,rfl⟩)
 rw [← up] at outer
 have fin:∀ r:RS,loopS [] (gN 1) (same_both_ways_l1 (cl n)) (upD 0 T.length) [some Td,none,none] S=r→b_same_both_ways (cl n) [some Td,none,none] S=sb r (sSeq (sRet (cCon (.bl true))) sPass) .mk:=fun r hr=>by
  have fl:fLen [Td] S=.ok (.int (T.length:Nat)) S:=by rw [hTd]; unfold tD; rw [fLen_tup,List.length_map]
  exact sb_run0 _ fl (by omega) (by omega) (by omega) hr
 rw [← hTd]
 rcases outer with ⟨a,S',f1,f2,rfl⟩ | ⟨ρ',S',f1,f2,v,w,rfl,rfl⟩
 ·have ha:=List.mem_range.mp (List.mem_of_find?_eq_some f1)
  have q:=List.find?_some f1
  rw [pB_f fun z=>by rw [pB_t (z a ha)] at q; cases q]
  exact run_rt rfl (by show b_same_both_ways (cl n) [some Td,none,none] S'=_; rw [fin _ f2]; rfl)
 ·rw [pB_t fun a ha=>by
   have:=List.find?_eq_none.mp f1 a (List.mem_range.mpr ha)
   cases q:pB (∀ b,b<a→ent T a b=ent T b a) with
   | true=>exact pB_iff.mp q
   | false=>rw [q] at this; exact absurd rfl this]
  exact run_rt rfl (by show b_same_both_ways (cl n) [some Td,none,none] S'=_; rw [fin _ f2]; simp)
open PySem L2 Mt
variable {cl:Nat→CLL}
theorem rows_all {sw:Int}{xs:List D} (h2:2≤xs.length) (h7:xs.length≤7):((xs.map fun d=>pB (rowP sw xs.length d)).all id=true)↔∃ T,D.tup xs=tD T∧okT sw T:=by
 unfold rowP
 rw [all_ex rowD (okR sw xs.length) xs]
 constructor
 ·rintro ⟨T,e,o⟩
  have hl:xs.length=T.length:=by rw [e,List.length_map]
  rw [hl] at o h2 h7
  exact ⟨T,by rw [e]; rfl,h2,h7,o⟩
 ·rintro ⟨T,e,o1,o2,o3⟩
  have e':xs=T.map rowD:=by unfold tD at e; injection e
  refine ⟨T,e',?_⟩
  rw [e',List.length_map]
  exact o3
theorem tab_no {sw:Int}{xs:List D} (h:¬ (2≤xs.length∧xs.length≤7)):¬ tabP sw (.tup xs):=by
 rintro ⟨T,e,o,_⟩
 have e':xs=T.map rowD:=by unfold tD at e; injection e
 apply h
 rw [e',List.length_map]
 exact ⟨o.1,o.2.1⟩
theorem tD_inj {T U:Tb} (h:tD T=tD U):T=U:=by
 have h':T.map rowD=U.map rowD:=by unfold tD at h; injection h
 refine (List.map_inj_right fun a b e=>?_).mp h'
 have e':a.map bitsD=b.map bitsD:=by unfold rowD at e; injection e
 exact (List.map_inj_right fun x y e=>bitsD_inj e).mp e'
theorem tab_of {sw:Int}{T:Tb} (ok:okT sw T):tabP sw (tD T)↔gdT T:=⟨fun ⟨U,e,_,g⟩=>by rw [tD_inj e]; exact g,fun g=>⟨T,rfl,ok,g⟩⟩
theorem all_bits (l:List Int):((l.map (· != 0)).all id=true)↔0∉l:=by
 rw [List.all_eq_true]
 constructor
 ·intro h z
  have:=h _ (List.mem_map_of_mem (f:=(· != (0:Int))) z)
  simp at this
 ·intro h b hb
  obtain ⟨i,hi,rfl⟩:=List.mem_map.mp hb
  simp
  exact fun z=>h (z▸hi)
theorem tb_run0 (c:CLL) {sw:Int}{xs:List D}{len:Int}{S:Store} (hl:(xs.length:Int)=len) (hn:¬ (2≤len∧len≤7)):b_is_table c [some (.int sw),some (.tup xs)] S=.rt (.bl false) S:=by
 by_cases h2:2≤len
 ·have h7:¬ len≤7:=fun z=>hn ⟨h2,z⟩
  simp [b_is_table,hl,h2,h7]
 ·simp [b_is_table,hl,h2]
theorem tb_run1 (c:CLL) {sw:Int}{xs bs:List D}{len:Int}{S S2 S3:Store} (hl:(xs.length:Int)=len) (h2:2≤len) (h7:len≤7) (hx:xs.length<lim) (e3:loopC [] .one (fun _=>ret true) (is_table_e2 c) [none,some (.int sw),some (.tup xs)] xs S=.ok bs S2) (h3:S2++[.lst bs]=S3) (e4:fBools (fun bs=>bs.all id) [.lst S2.length] S3=.ok (.bl false) S3) :
  b_is_table c [some (.int sw),some (.tup xs)] S=.rt (.bl false) S3:=by
 simp [b_is_table,hl,h2,h7,hx,e3,h3,e4]
theorem tb_run2 (c:CLL) {sw:Int}{xs bs bs2:List D}{len:Int}{S S2 S3 S4 S5:Store}{b b':Bool} (hl:(xs.length:Int)=len) (h2:2≤len) (h7:len≤7) (hx:xs.length<lim) (e3:loopC [] .one (fun _=>ret true) (is_table_e2 c) [none,some (.int sw),some (.tup xs)] xs S=.ok bs S2) (h3:S2++[.lst bs]=S3) (e4:fBools (fun bs=>bs.all id) [.lst S2.length] S3=.ok (.bl true) S3)
  (hx2:(enumD xs).length<lim) (e5:loopC [] (.many 2) (fun _=>ret true) (is_table_e1 c) [none,none] (enumD xs) S3=.ok bs2 S4) (h5:S4++[.lst bs2]=S5) (e6:fBools (fun bs=>bs.all id) [.lst S4.length] S5=.ok (.bl b) S5) (e7:c "same_both_ways" [.tup xs] S5=.ok (.bl b') S5) :
  b_is_table c [some (.int sw),some (.tup xs)] S=.rt (.bl (b&&b')) S5:=by
 cases b <;> simp [b_is_table,hl,h2,h7,hx,e3,h3,e4,hx2,e5,h5,e6,e7]
theorem tb_e1 (c:CLL) {row ld:D}{z:Int}{b:Bool}{S:Store} (i1:oIx row (.int z) S=.ok ld S) (f1:fBools (fun bs=>bs.all id) [ld] S=.ok (.bl b) S):is_table_e1 c [some (.int z),some row] S=.ok (.bl b) S:=by
 simp [is_table_e1,i1,f1]
theorem enum_items (l:List (List (List Int))):enumD (l.map rowD)=(List.range l.length).map fun (a:Nat)=>D.tup [.int (a:Nat),rowD (l.getD a [])]:=by
 refine List.ext_getElem? fun i=>?_
 by_cases hi:i<l.length
 ·rw [enum_get (by rw [List.length_map]; exact hi),List.getElem?_map,List.getElem?_range hi]
  have:l.getD i []=l[i]:=by rw [List.getD_eq_getElem?_getD,List.getElem?_eq_getElem hi]; rfl
  show _=some (D.tup [.int (i:Nat),rowD (l.getD i [])])
  rw [this,List.getElem_map]
 ·rw [List.getElem?_eq_none (by rw [enum_len,List.length_map]; omega),List.getElem?_eq_none (by rw [List.length_map,List.length_range]; omega)]
theorem is_table_any (h:Hs_is_table cl) (hr:Hs_is_row cl) (hs:Hs_same_both_ways cl) (H:HB cl) (n:Nat) {sw:Int} (h1:1≤sw) (h4:sw≤4) {S:Store}{d:D} (hk:Nk S 3 d):Spc (cl (n+5) "is_table" [.int sw,d] S) ((.bl (pB (tabP sw d)))) S:=by
 rw [show n+5=(n+4)+1 from rfl,h]
 have e0:=inst_T hk.k
 cases d with
 | tup xs =>
  obtain ⟨hl,hx⟩:=hk.2 xs rfl
  by_cases hq:2≤xs.length∧xs.length≤7
  ·obtain ⟨S2,e3,x3⟩:=comp_map (w:=[]) (t:=.one) (c:=is_table_e2 (cl (n+4))) (ρ0:=[none,some (.int sw),some (.tup xs)]) (fun S'=>Ex S S') (fun _ _=>okW_nil _) xs (fun d=>.bl (pB (rowP sw xs.length d))) (Kp.refl _ _)
    (fun d hd S' x=>by
     obtain ⟨S2,e2,x2⟩:=is_row_any hr H n h1 h4 xs.length ((hx d hd).kd (kd_ex x))
     exact ⟨_,rfl,S2,by simp [is_table_e2]; exact e2,x.trans x2⟩)
   have e4:=fBools_lst (S:=S2++[.lst (xs.map fun d=>.bl (pB (rowP sw xs.length d)))]) (n:=S2.length) (fun bs=>bs.all id) (fun d=>pB (rowP sw xs.length d)) xs (lstAt_new _ _)
   have x4:=x3.trans (ex_app S2 [.lst (xs.map fun d=>.bl (pB (rowP sw xs.length d)))])
   cases q:(xs.map fun d=>pB (rowP sw xs.length d)).all id with
   | false =>
    rw [q] at e4
    refine ⟨_,run_rt rfl ?_,x4⟩
    rw [pB_f fun ⟨T,e,o,_⟩=>by rw [(rows_all hq.1 hq.2).mpr ⟨T,e,o⟩] at q; cases q]
    exact tb_run1 _ rfl (by omega) (by omega) (by rw [lim_eq]; omega) e3 rfl e4
   | true =>
    rw [q] at e4
    obtain ⟨T,eT,ok⟩:=(rows_all hq.1 hq.2).mp q
    have exs:xs=T.map rowD:=by unfold tD at eT; injection eT
    obtain ⟨S3,h3⟩:∃ S3,S2++[O.lst (xs.map fun d=>.bl (pB (rowP sw xs.length d)))]=S3:=⟨_,rfl⟩
    rw [h3] at e4 x4
    have e5:loopC [] (.many 2) (fun _=>ret true) (is_table_e1 (cl (n+4))) [none,none] (enumD xs) S3=.ok ((List.range T.length).map fun a=>.bl (((ent T a a).map (· != 0)).all id)) S3:=by
     rw [exs,enum_items]
     refine comp_pureM (fun (a:Nat)=>D.tup [.int (a:Nat),rowD (T.getD a [])]) (okW_nil _) (fun a=>.bl (((ent T a a).map (· != 0)).all id)) (List.range T.length) fun a ha=>⟨[some (.int (a:Nat)),some (rowD (T.getD a []))],rfl,?_⟩
     have ha':=List.mem_range.mp ha
     exact tb_e1 _ (ix_ent ok ha' ha' S3) (fBools_tup (fun bs=>bs.all id) (ent T a a) S3)
    have e6:=fBools_lst (S:=S3++[.lst ((List.range T.length).map fun a=>.bl (((ent T a a).map (· != 0)).all id))]) (n:=S3.length) (fun bs=>bs.all id) (fun d=>match d with | .bl b=>b | _=>false) ((List.range T.length).map fun a=>.bl (((ent T a a).map (· != 0)).all id)) (by rw [lstAt_new,List.map_map]; rfl)
    rw [List.map_map] at e6
    have e7:=same_both_spec hs (n+3) ok (S3++[.lst ((List.range T.length).map fun a=>.bl (((ent T a a).map (· != 0)).all id))])
    rw [← eT] at e7
    refine ⟨_,run_rt rfl ?_,x4.trans (ex_app S3 [.lst ((List.range T.length).map fun a=>.bl (((ent T a a).map (· != 0)).all id))])⟩
    have hg:pB (tabP sw (.tup xs))=((((List.range T.length).map ((fun d=>match d with | D.bl b=>b | _=>false)∘fun a=>D.bl (((ent T a a).map (· != 0)).all id))).all id)&&pB (∀ a,a<T.length→∀ b,b<a→ent T a b=ent T b a)):=by
     refine (pB_of ?_).symm
     rw [eT,tab_of ok,Bool.and_eq_true,pB_iff,List.all_eq_true]
     unfold gdT
     refine and_congr ⟨fun z a ha=>?_,fun z b hb=>?_⟩ Iff.rfl
     ·exact (all_bits _).mp (z _ (List.mem_map_of_mem (f:=(fun d=>match d with | D.bl b=>b | _=>false)∘fun a=>D.bl (((ent T a a).map (· != 0)).all id)) (List.mem_range.mpr ha)))
     ·obtain ⟨a,ha,rfl⟩:=List.mem_map.mp hb
      exact (all_bits _).mpr (z a (List.mem_range.mp ha))
    rw [hg]
    exact tb_run2 _ rfl (by omega) (by omega) (by rw [lim_eq]; omega) e3 h3 e4 (by rw [enum_len,lim_eq]; omega) e5 rfl e6 e7
  ·refine ⟨S,run_rt rfl ?_,Kp.refl _ _⟩
   rw [pB_f (tab_no hq)]
   exact tb_run0 _ rfl (by omega)
 | _ =>
  refine ⟨S,run_rt rfl ?_,Kp.refl _ _⟩
  rw [pB_f (by rintro ⟨T,e,_⟩; cases e)]
  simp [b_is_table,startE,e0,isT]
open PySem L2 Mt
variable {cl:Nat→CLL}
theorem up_map (a:Nat):upD 0 a=(List.range a).map fun (b:Nat)=>D.int (b:Nat):=by
 unfold upD; exact List.map_congr_left fun b _=>by simp
open PySem L2 Mt
variable {cl:Nat→CLL}
structure Grid (S:Store) (k:Nat) (rs:List Nat) (T:Tb):Prop where
 out:lstAt S k=some (rs.map D.lst)
 len:rs.length=T.length
 nd:rs.Nodup
 nk:k∉rs
 row:∀ (a r:Nat),rs[a]?=some r→lstAt S r=some ((T.getD a []).map bitsD)
open PySem L2 Mt
variable {cl:Nat→CLL}
theorem ones_mul {sw P:Int} (h1:1≤sw) (h4:sw≤4) (hP:P=((2 ^ sw.toNat:Nat):Int)) (x:Int) (S:Store):oMul (.tup [.int x]) (.int P) S=.ok (bitsD (List.replicate (2 ^ sw.toNat) x)) S:=by
 have hb:2≤2 ^ sw.toNat∧2 ^ sw.toNat≤16:=by
  have:sw=1∨sw=2∨sw=3∨sw=4:=by omega
  rcases this with rfl | rfl | rfl | rfl <;> decide
 rw [hP]
 generalize 2 ^ sw.toNat=q at *
 unfold oMul
 dsimp only
 have e:((q:Int)).toNat=q:=by omega
 rw [if_pos ⟨by simp,by omega,by omega,by rw [lim_eq,e]; simp; omega⟩,e,List.flatten_replicate_singleton]
 unfold bitsD
 rw [List.map_replicate]
open PySem L2 Mt
variable {cl:Nat→CLL}
def TOk (S0:Store) (i k:Nat) (rs:List Nat) (sw:Int) (p:Nat) (S:Store):Prop:=∃ T,Grid S k rs T∧okT sw T∧gdT T∧T.length=p∧Kp (·=i) S0 S∧StOk S i
open PySem L2 Mt
variable {cl:Nat→CLL}
def tiedC (a b:Int) (c:Ct):Prop:=(c.a=a∧c.b=b)∨(c.a=b∧c.b=a)
noncomputable def tieB (N:Net) (a b:Int) (st:List Int):Bool:=pB (a=b∨∃ c∈N.cs,tiedC a b c∧shutB c st=true)
noncomputable def tieL (N:Net) (a b:Int):List Int:=(sett N.sw.toNat).map fun st=>if tieB N a b st then 1 else 0
noncomputable def tieT (N:Net):Tb:=(List.range N.pl.toNat).map fun (a:Nat)=>(List.range N.pl.toNat).map fun (b:Nat)=>tieL N a b
theorem tieL_self (N:Net) (a:Int):tieL N a a=List.replicate (2 ^ N.sw.toNat) 1:=by
 unfold tieL
 have:∀ st∈sett N.sw.toNat,(if tieB N a a st then (1:Int) else 0)=1:=fun st _=>by unfold tieB; rw [pB_t (.inl rfl)]; rfl
 rw [List.map_congr_left this,List.map_const',sett_len]
noncomputable def netB (N:Net) (a b:Int):Net:=⟨N.sw,2,(N.cs.filter fun c=>eqB (D.tup [.int c.a,.int c.b]) (.tup [.int a,.int b])).map fun c=>⟨0,1,c.k,c.o⟩⟩
theorem mem_netB {N:Net}{a b:Int}{c:Ct}:c∈(N.cs.filter fun c=>eqB (D.tup [.int c.a,.int c.b]) (.tup [.int a,.int b]))↔c∈N.cs∧c.a=a∧c.b=b:=by
 rw [List.mem_filter,eqB_iff]
 constructor
 ·rintro ⟨h,e⟩
  injection e with e
  injection e with e1 e2
  injection e2 with e2 _
  injection e1 with e1
  injection e2 with e2
  exact ⟨h,e1,e2⟩
 ·rintro ⟨h,rfl,rfl⟩
  exact ⟨h,rfl⟩
theorem lets_netB {N:Net}{a b:Int}{st:List Int}:letsB (netB N a b) st=true↔∃ c∈N.cs,(c.a=a∧c.b=b)∧shutB c st=true:=by
 rw [lets_iff]
 constructor
 ·intro h
  refine Classical.byContradiction fun hn=>?_
  have:=h (fun x=>x=0) rfl (fun c hc hs=>by
   exfalso
   obtain ⟨c',hc',rfl⟩:=List.mem_map.mp hc
   obtain ⟨m1,m2⟩:=mem_netB.mp hc'
   exact hn ⟨c',m1,m2,hs⟩)
  exact absurd this (by decide)
 ·rintro ⟨c,hc,he,hs⟩ C c0 cc
  exact (cc ⟨0,1,c.k,c.o⟩ (List.mem_map.mpr ⟨c,mem_netB.mpr ⟨hc,he⟩,rfl⟩) hs).mp c0
theorem fun_netB {N:Net} (ok:N.g) {a b:Int} (hab:a≠b):funP (netB N (if b<a then b else a) (if b>a then b else a))=tieL N a b:=by
 unfold funP tieL
 show (sett N.sw.toNat).map _=_
 refine List.map_congr_left fun st _=>?_
 have:letsB (netB N (if b<a then b else a) (if b>a then b else a)) st=tieB N a b st:=by
  unfold tieB
  refine pB_of ?_
  rw [lets_netB]
  constructor
  ·rintro ⟨c,hc,he,hs⟩
   refine .inr ⟨c,hc,?_,hs⟩
   by_cases h:b<a
   ·rw [if_pos h,if_neg (by omega)] at he; exact .inr he
   ·rw [if_neg h,if_pos (by omega)] at he; exact .inl he
  ·rintro (h | ⟨c,hc,he,hs⟩)
   ·exact absurd h hab
   ·obtain ⟨_,lt,_⟩:=ok.c2 c hc
    refine ⟨c,hc,?_,hs⟩
    by_cases h:b<a
    ·rw [if_pos h,if_neg (by omega)]
     rcases he with he | he
     ·omega
     ·exact he
    ·rw [if_neg h,if_pos (by omega)]
     rcases he with he | he
     ·exact he
     ·omega
 rw [this]
theorem td_run1 (c:CLL) {nd:D}{sw a q:Int}{k:Nat}{l:List Int}{S S1:Store} (i0:oIx nd (.int 0) S=.ok (.int sw) S) (e1:c "settings" [.int sw] S=.ok (.lst k) S1) (e2:fLen [.lst k] S1=.ok (.int q) S1) (m:oMul (.tup [.int 1]) (.int q) S1=.ok (bitsD l) S1) :
  b_tied c [some nd,some (.int a),some (.int a),none,none] S=.rt (bitsD l) S1:=by
 simp [b_tied,i0,e1,e2,m]
theorem td_run2 (c:CLL) {nd fd:D}{sw a b x y:Int}{R M:List D}{S S1 S2:Store} (hab:¬ a=b) (hx:(if b<a then b else a)=x) (hy:(if b>a then b else a)=y) (i0:∀ S,oIx nd (.int 0) S=.ok (.int sw) S) (i2:∀ S,oIx nd (.int 2) S=.ok (.tup R) S) (hl:R.length<lim) (e1:loopC [] .one (tied_t1 c) (tied_e1 c) [none,some (.tup [.int x,.int y])] R S=.ok M S) (h1:S++[.lst M]=S1) (t1:fTuple [.lst S.length] S1=.ok (.tup M) S1) (e2:c "function_of" [.tup [.int sw,.int 2,.tup M]] S1=.ok fd S2) :
  b_tied c [some nd,some (.int a),some (.int b),none,none] S=.rt fd S2:=by
 simp [b_tied,hab,hx,hy,i0,i2,hl,e1,h1,t1,e2]
theorem tied_spec (h:Hs_tied cl) (F:HF cl) (n:Nat) {N:Net} (ok:N.g) (a b:Int) (S:Store):Spc (cl (n+5) "tied" [N.d,.int a,.int b] S) ((bitsD (tieL N a b))) S:=by
 rw [show n+5=(n+4)+1 from rfl,h]
 by_cases hab:a=b
 ·subst hab
  obtain ⟨k,S1,e1,x1,_,lk⟩:=F.setts (n+3) ok S
  have e2:=fLen_lst lk
  rw [List.length_map,sett_len] at e2
  rw [tieL_self]
  exact ⟨S1,run_rt rfl (td_run1 _ (by unfold Net.d; simp) e1 e2 (ones_mul ok.s1 ok.s2 rfl 1 S1)),x1⟩
 ·obtain ⟨x,hx⟩:∃ x,(if b<a then b else a)=x:=⟨_,rfl⟩
  obtain ⟨y,hy⟩:∃ y,(if b>a then b else a)=y:=⟨_,rfl⟩
  have e1:loopC [] .one (tied_t1 (cl (n+4))) (tied_e1 (cl (n+4))) [none,some (.tup [.int x,.int y])] (N.cs.map Ct.d) S=.ok ((netB N x y).cs.map Ct.d) S:=by
   have e:=comp_pure Ct.d (w:=[]) (t:=.one) (tc:=tied_t1 (cl (n+4))) (c:=tied_e1 (cl (n+4))) (ρ0:=[none,some (.tup [.int x,.int y])]) (okW_nil S) (fun c=>eqB (D.tup [.int c.a,.int c.b]) (.tup [.int x,.int y])) (fun c=>D.tup [.int 0,.int 1,.int c.k,.int c.o]) N.cs (fun c _=>by
    refine ⟨[some c.d,some (.tup [.int x,.int y])],rfl,?_,fun _=>?_⟩
    ·have p:∀ u v:Int,plain 40 (D.tup [.int u,.int v])=true:=fun u v=>plain_tup (n:=39) (fun z hz=>by simp at hz; rcases hz with rfl | rfl <;> exact plain_int (by decide) _)
     have q:=oEq_plain S (p c.a c.b) (p x y)
     have c1:cutD [.int c.a,.int c.b,.int c.k,.int c.o] none (some 2)=[.int c.a,.int c.b]:=rfl
     unfold Ct.d
     simp [tied_t1,c1,q]
    ·have c2:cutD [.int c.a,.int c.b,.int c.k,.int c.o] (some 2) none=[.int c.k,.int c.o]:=rfl
     have hlim:4≤lim:=by decide
     unfold Ct.d
     simp [tied_e1,c2,hlim])
   rw [e]
   show _=R.ok (List.map Ct.d (List.map _ _)) S
   rw [List.map_map]; rfl
  obtain ⟨S1,h1⟩:∃ S1,S++[O.lst ((netB N x y).cs.map Ct.d)]=S1:=⟨_,rfl⟩
  have x1:Ex S S1:=by rw [← h1]; exact ex_app _ _
  obtain ⟨S2,e2,x2⟩:=function_of_spec F.fo F.le F.jo F.pf F.sc F.is F.se n (N:=netB N x y) (by show 0≤N.sw; have:=ok.s1; omega) ok.s2 (by
   show ((N.cs.filter _).map _).length≤100
   rw [List.length_map]
   have:=List.length_filter_le (fun c=>eqB (D.tup [.int c.a,.int c.b]) (.tup [.int x,.int y])) N.cs
   have:=ok.len (by decide)
   omega) (fun c hc=>by
    obtain ⟨c',_,rfl⟩:=List.mem_map.mp hc
    show ((0:Int)≤0∧(0:Int)<7)∧(0:Int)≤1∧(1:Int)<7
    decide) (fun c hc=>by
    obtain ⟨c',hc',rfl⟩:=List.mem_map.mp hc
    exact ok.k2 c' (mem_netB.mp hc').1) S1
  refine ⟨S2,run_rt rfl ?_,x1.trans x2⟩
  have ef:funP (netB N x y)=tieL N a b:=by rw [← hx,← hy]; exact fun_netB ok hab
  rw [ef] at e2
  have hl:(N.cs.map Ct.d).length<lim:=by rw [List.length_map,lim_eq]; have:=ok.len (by decide); omega
  exact td_run2 (sw:=N.sw) _ hab hx hy (fun S=>by unfold Net.d; simp) (fun S=>by unfold Net.d; simp) hl e1 h1 (by rw [← h1]; exact fTuple_lst (lstAt_new _ _)) e2
theorem tr_run (c:CLL) {nd:D}{pl a:Int}{m:Nat}{R:List D}{S S1 S2:Store} (i1:oIx nd (.int 1) S=.ok (.int pl) S) (f1:-4611686018427387904≤pl) (f2:pl<4611686018427387904) (ta:pl.toNat=m) (hm:(upD 0 m).length<lim) (e1:loopC [] .one (fun _=>ret true) (tied_row_e1 c) [none,some nd,some (.int a)] (upD 0 m) S=.ok R S1) (h1:S1++[.lst R]=S2) (t1:fTuple [.lst S1.length] S2=.ok (.tup R) S2) :
  b_tied_row c [some nd,some (.int a)] S=.rt (.tup R) S2:=by
 simp [b_tied_row,i1,f1,f2,ta,hm,e1,h1,t1]
theorem to_run (c:CLL) {nd:D}{pl:Int}{m:Nat}{R:List D}{S S1 S2:Store} (i1:oIx nd (.int 1) S=.ok (.int pl) S) (f1:-4611686018427387904≤pl) (f2:pl<4611686018427387904) (ta:pl.toNat=m) (hm:(upD 0 m).length<lim) (e1:loopC [] .one (fun _=>ret true) (table_of_e1 c) [none,some nd] (upD 0 m) S=.ok R S1) (h1:S1++[.lst R]=S2) (t1:fTuple [.lst S1.length] S2=.ok (.tup R) S2) :
  b_table_of c [some nd] S=.rt (.tup R) S2:=by
 simp [b_table_of,i1,f1,f2,ta,hm,e1,h1,t1]
theorem tied_row_spec (h:Hs_tied_row cl) (ht:Hs_tied cl) (F:HF cl) (n:Nat) {N:Net} (ok:N.g) (a:Int) (S:Store):Spc (cl (n+6) "tied_row" [N.d,.int a] S) ((rowD ((List.range N.pl.toNat).map fun (b:Nat)=>tieL N a b))) S:=by
 rw [show n+6=(n+5)+1 from rfl,h]
 have p1:=ok.p1
 have p2:=ok.p2
 obtain ⟨S1,e1,x1⟩:=comp_mapM (fun (b:Nat)=>D.int (b:Nat)) (w:=[]) (t:=.one) (c:=tied_row_e1 (cl (n+5))) (ρ0:=[none,some N.d,some (.int a)]) (fun S'=>Ex S S') (fun _ _=>okW_nil _) (fun (b:Nat)=>bitsD (tieL N a b)) (List.range N.pl.toNat) (Kp.refl _ _)
  (fun b hb S' x=>by
   obtain ⟨S2,e2,x2⟩:=tied_spec ht F n ok a (b:Nat) S'
   exact ⟨_,rfl,S2,by generalize N.d=nd at *; simp [tied_row_e1]; exact e2,x.trans x2⟩)
 rw [← up_map] at e1
 have er:(List.range N.pl.toNat).map (fun (b:Nat)=>bitsD (tieL N a b))=((List.range N.pl.toNat).map fun (b:Nat)=>tieL N a b).map bitsD:=by rw [List.map_map]; rfl
 rw [er] at e1
 obtain ⟨S2,h2⟩:∃ S2,S1++[O.lst (((List.range N.pl.toNat).map fun (b:Nat)=>tieL N a b).map bitsD)]=S2:=⟨_,rfl⟩
 have x2:Ex S1 S2:=by rw [← h2]; exact ex_app _ _
 exact ⟨S2,run_rt rfl (tr_run _ (by unfold Net.d; simp) (by omega) (by omega) rfl (by rw [upD_len,lim_eq]; omega) e1 h2 (by rw [← h2]; exact fTuple_lst (lstAt_new _ _))),x1.trans x2⟩
theorem table_of_spec (h:Hs_table_of cl) (hr:Hs_tied_row cl) (ht:Hs_tied cl) (F:HF cl) (n:Nat) {N:Net} (ok:N.g) (S:Store):Spc (cl (n+7) "table_of" [N.d] S) ((tD (tieT N))) S:=by
 rw [show n+7=(n+6)+1 from rfl,h]
 have p1:=ok.p1
 have p2:=ok.p2
 obtain ⟨S1,e1,x1⟩:=comp_mapM (fun (b:Nat)=>D.int (b:Nat)) (w:=[]) (t:=.one) (c:=table_of_e1 (cl (n+6))) (ρ0:=[none,some N.d]) (fun S'=>Ex S S') (fun _ _=>okW_nil _) (fun (a:Nat)=>rowD ((List.range N.pl.toNat).map fun (b:Nat)=>tieL N a b)) (List.range N.pl.toNat) (Kp.refl _ _)
  (fun a ha S' x=>by
   obtain ⟨S2,e2,x2⟩:=tied_row_spec hr ht F n ok (a:Nat) S'
   exact ⟨_,rfl,S2,by generalize N.d=nd at *; simp [table_of_e1]; exact e2,x.trans x2⟩)
 rw [← up_map] at e1
 have er:(List.range N.pl.toNat).map (fun (a:Nat)=>rowD ((List.range N.pl.toNat).map fun (b:Nat)=>tieL N a b))=(tieT N).map rowD:=by unfold tieT; rw [List.map_map]; rfl
 rw [er] at e1
 obtain ⟨S2,h2⟩:∃ S2,S1++[O.lst ((tieT N).map rowD)]=S2:=⟨_,rfl⟩
 have x2:Ex S1 S2:=by rw [← h2]; exact ex_app _ _
 exact ⟨S2,run_rt rfl (to_run _ (by unfold Net.d; simp) (by omega) (by omega) rfl (by rw [upD_len,lim_eq]; omega) e1 h2 (by rw [← h2]; exact fTuple_lst (lstAt_new _ _))),x1.trans x2⟩
open PySem L2 Mt
variable {cl:Nat→CLL}
noncomputable def orL (l m:List Int):List Int:=(l.zip m).map fun p=>if 0<p.1+p.2 then 1 else 0
open PySem L2 Mt
variable {cl:Nat→CLL}
theorem tieT_len (N:Net):(tieT N).length=N.pl.toNat:=by unfold tieT; rw [List.length_map,List.length_range]
theorem tieT_row (N:Net) {a:Nat} (ha:a<N.pl.toNat):(tieT N).getD a []=(List.range N.pl.toNat).map fun (b:Nat)=>tieL N a b:=by
 unfold tieT
 rw [List.getD_eq_getElem?_getD,List.getElem?_map,List.getElem?_range ha]; rfl
theorem tieT_ent (N:Net) {a b:Nat} (ha:a<N.pl.toNat) (hb:b<N.pl.toNat):ent (tieT N) a b=tieL N a b:=by
 unfold ent
 rw [tieT_row N ha,List.getD_eq_getElem?_getD,List.getElem?_map,List.getElem?_range hb]; rfl
theorem tieL_len (N:Net) (a b:Int):(tieL N a b).length=2 ^ N.sw.toNat:=by unfold tieL; rw [List.length_map,sett_len]
theorem tieL_bits (N:Net) (a b:Int):∀ x∈tieL N a b,0≤x∧x<2:=fun x hx=>by
 obtain ⟨st,_,rfl⟩:=List.mem_map.mp hx
 split <;> decide
theorem tieT_okT {N:Net} (ok:N.g):okT N.sw (tieT N):=by
 have p1:=ok.p1
 have p2:=ok.p2
 refine ⟨by rw [tieT_len]; omega,by rw [tieT_len]; omega,fun r hr=>?_⟩
 rw [tieT_len]
 obtain ⟨a,_,rfl⟩:=List.mem_map.mp hr
 refine ⟨by rw [List.length_map,List.length_range],fun l hl=>?_⟩
 obtain ⟨b,_,rfl⟩:=List.mem_map.mp hl
 exact ⟨tieL_len N _ _,tieL_bits N _ _⟩
open PySem L2 Mt
variable {cl:Nat→CLL}
theorem nk_tup {S:Store}{n:Nat}{xs:List D} (hl:xs.length≤1000) (h:∀ x∈xs,Nk S n x):Nk S (n+1) (.tup xs):=⟨kd_tup _ _,fun ys e=>by cases e; exact ⟨hl,h⟩⟩
theorem nk_at {S:Store}{n:Nat}{d:D} (k:kd S d) (t:isT d=false):Nk S n d:=by
 cases n with
 | zero=>exact k
 | succ n=>exact ⟨k,fun xs e=>by rw [e] at t; cases t⟩
theorem nk_bits (S:Store) {l:List Int} (hl:l.length≤1000) (n:Nat):Nk S (n+1) (bitsD l):=nk_tup (by rw [List.length_map]; exact hl) (fun x hx=>by obtain ⟨i,_,rfl⟩:=List.mem_map.mp hx; exact nk_at (kd_int _ _) rfl)
theorem nk_row (S:Store) {sw:Int} (h4:sw≤4) {p:Nat} (hp:p≤7) {r:List (List Int)} (o:okR sw p r) (n:Nat):Nk S (n+2) (rowD r):=by
 have h16:2 ^ sw.toNat≤16:=by
  have:=pow_small (j:=sw.toNat) (by omega)
  omega
 refine nk_tup (by rw [List.length_map,o.1]; omega) fun x hx=>?_
 obtain ⟨l,hl,rfl⟩:=List.mem_map.mp hx
 exact nk_bits S (by rw [(o.2 l hl).1]; omega) n
theorem nk_tab (S:Store) {sw:Int} (h4:sw≤4) {T:Tb} (ok:okT sw T) (n:Nat):Nk S (n+3) (tD T):=by
 refine nk_tup (by rw [List.length_map]; have:=ok.2.1; omega) fun x hx=>?_
 obtain ⟨r,hr,rfl⟩:=List.mem_map.mp hx
 exact nk_row S h4 ok.2.1 (ok.2.2 r hr) n
open PySem L2 Mt
variable {cl:Nat→CLL}
structure HTb (cl:Nat→CLL):Prop where
 b:HB cl
 it:Hs_is_table cl
 ir:Hs_is_row cl
 sb:Hs_same_both_ways cl
 lt:Hs_law_is_table cl
 lw:Hs_law_whole cl
structure HR (cl:Nat→CLL):Prop where
 d:HD cl
 f:HF cl
 to:Hs_table_of cl
 tr:Hs_tied_row cl
 ti:Hs_tied cl
 di:Hs_law_direct cl
 ls:Hs_law_settings cl
 ei:Hs_law_either cl
 sa:Hs_law_same cl
 ta:Hs_law_table cl
 od:Hs_law_odd_v3 cl
 be:Hs_law_bent_v7 cl
 pu:Hs_law_put_v2 cl
open PySem L2 Mt
variable {cl:Nat→CLL}
noncomputable def andL (l m:List Int):List Int:=(l.zip m).map fun p=>p.1*p.2
theorem bit_or {x:Int} (h:0≤x∧x<2):x=0∨x=1:=by omega
theorem and_e (c:CLL) {x y:Int} (hx:x=0∨x=1) (hy:y=0∨y=1) (S:Store):where_both_e1 c [some (.int x),some (.int y)] S=.ok (.int (x*y)) S:=by
 rcases hx with rfl | rfl <;> rcases hy with rfl | rfl <;> simp [where_both_e1] <;> rfl
theorem or_e (c:CLL) {x y:Int} (hx:x=0∨x=1) (hy:y=0∨y=1) (S:Store):where_either_e1 c [some (.int x),some (.int y)] S=.ok (.int (if 0<x+y then 1 else 0)) S:=by
 rcases hx with rfl | rfl <;> rcases hy with rfl | rfl <;> simp [where_either_e1] <;> rfl
theorem zp_run {e:C}{X Y R:List D}{S S1:Store} (hl:(zipD X Y).length<lim) (e1:loopC [] (.many 2) (fun _=>ret true) e [none,none] (zipD X Y) S=.ok R S) (h1:S++[.lst R]=S1) (t:fTuple [.lst S.length] S1=.ok (.tup R) S1) :
  (sSeq (sRet (cApp fTuple (cArgs [(cComp (iZipL (cArgs [(cVar 0),(cVar 1)])) 2 [] (.many 2) (fun _=>ret true) e)]))) sPass) [some (.tup X),some (.tup Y)] S=.rt (.tup R) S1:=by
 simp [hl,e1,h1,t]
theorem zp_spec {e:C} (f:Int→Int→Int) (l m:List Int) (hl:l.length≤16) (S:Store) (he:∀ p∈l.zip m,e [some (.int p.1),some (.int p.2)] S=.ok (.int (f p.1 p.2)) S) :
  ∃ S1,(sSeq (sRet (cApp fTuple (cArgs [(cComp (iZipL (cArgs [(cVar 0),(cVar 1)])) 2 [] (.many 2) (fun _=>ret true) e)]))) sPass) [some (bitsD l),some (bitsD m)] S=.rt (bitsD ((l.zip m).map fun p=>f p.1 p.2)) S1∧Ex S S1:=by
 have z:zipD (l.map D.int) (m.map D.int)=(l.zip m).map fun p=>.tup [.int p.1,.int p.2]:=by
  unfold zipD
  rw [List.zip_map,List.map_map]; rfl
 have e1:loopC [] (.many 2) (fun _=>ret true) e [none,none] (zipD (l.map D.int) (m.map D.int)) S=.ok (((l.zip m).map fun p=>f p.1 p.2).map D.int) S:=by
  rw [z,List.map_map]
  exact comp_pureM (fun (p:Int × Int)=>D.tup [.int p.1,.int p.2]) (okW_nil _) _ _ fun p hp=>⟨[some (.int p.1),some (.int p.2)],rfl,he p hp⟩
 obtain ⟨S1,h1⟩:∃ S1,S++[O.lst (((l.zip m).map fun p=>f p.1 p.2).map D.int)]=S1:=⟨_,rfl⟩
 refine ⟨S1,zp_run ?_ e1 h1 (by rw [← h1]; exact fTuple_lst (lstAt_new _ _)),by rw [← h1]; exact ex_app _ _⟩
 rw [z,List.length_map,List.length_zip,lim_eq]; omega
def bts (l:List Int):Prop:=∀ i∈l,0≤i∧i<2
theorem zip_bts {l m:List Int} (hl:bts l) (hm:bts m) {p:Int × Int} (hp:p∈l.zip m):(p.1=0∨p.1=1)∧(p.2=0∨p.2=1):=by
 have:=List.of_mem_zip (a:=p.1) (b:=p.2) hp
 exact ⟨bit_or (hl _ this.1),bit_or (hm _ this.2)⟩
theorem where_both_spec (h:Hs_where_both cl) (n:Nat) {l m:List Int} (hl:l.length≤16) (bl:bts l) (bm:bts m) (S:Store):Spc (cl (n+1) "where_both" [bitsD l,bitsD m] S) (bitsD (andL l m)) S:=by
 obtain ⟨S1,e,x⟩:=zp_spec (e:=where_both_e1 (cl n)) (fun x y=>x*y) l m hl S fun p hp=>and_e _ (zip_bts bl bm hp).1 (zip_bts bl bm hp).2 S
 exact ⟨S1,by rw [h]; exact run_rt rfl e,x⟩
theorem where_either_spec (h:Hs_where_either cl) (n:Nat) {l m:List Int} (hl:l.length≤16) (bl:bts l) (bm:bts m) (S:Store):Spc (cl (n+1) "where_either" [bitsD l,bitsD m] S) (bitsD (orL l m)) S:=by
 obtain ⟨S1,e,x⟩:=zp_spec (e:=where_either_e1 (cl n)) (fun x y=>if 0<x+y then 1 else 0) l m hl S fun p hp=>or_e _ (zip_bts bl bm hp).1 (zip_bts bl bm hp).2 S
 exact ⟨S1,by rw [h]; exact run_rt rfl e,x⟩
theorem andL_ok {sw:Int}{l m:List Int} (hl:okF sw l) (hm:okF sw m):okF sw (andL l m):=by
 refine ⟨by unfold andL; rw [List.length_map,List.length_zip,hl.1,hm.1,Nat.min_self],fun i hi=>?_⟩
 obtain ⟨p,hp,rfl⟩:=List.mem_map.mp hi
 obtain ⟨a,b⟩:=zip_bts hl.2 hm.2 hp
 rcases a with a | a <;> rcases b with b | b <;> rw [a,b] <;> decide
theorem orL_ok' {sw:Int}{l m:List Int} (hl:okF sw l) (hm:okF sw m):okF sw (orL l m):=by
 refine ⟨by unfold orL; rw [List.length_map,List.length_zip,hl.1,hm.1,Nat.min_self],fun i hi=>?_⟩
 obtain ⟨p,hp,rfl⟩:=List.mem_map.mp hi
 split <;> decide
theorem okF_len {sw:Int} (h4:sw≤4) {l:List Int} (h:okF sw l):l.length≤16:=by
 rw [h.1]
 have:sw.toNat≤4:=by omega
 exact Nat.le_trans (Nat.pow_le_pow_right (by decide) this) (by decide)
noncomputable def kps (n p:Nat):List Nat:=(List.range n).filter (fun a=>a != p)
theorem kps_mem {n p a:Nat}:a∈kps n p↔a<n∧a≠p:=by unfold kps; simp
theorem kps_len {n p:Nat} (hp:p<n):(kps n p).length=n - 1:=by
 induction n with
 | zero=>omega
 | succ n ih =>
  unfold kps at *
  rw [List.range_succ,List.filter_append,List.length_append]
  by_cases h:p=n
  ·subst h
   rw [List.filter_eq_self.mpr (fun a ha=>by have:=List.mem_range.mp ha; simp; omega)]
   simp
  ·have hp':p<n:=by omega
   rw [ih hp']
   have:(n != p)=true:=by simp; omega
   simp [this]; omega
noncomputable def outE (T:Tb) (p a b:Nat):List Int:=orL (ent T a b) (andL (ent T a p) (ent T p b))
noncomputable def outR (T:Tb) (p a:Nat):List (List Int):=(kps T.length p).map fun b=>outE T p a b
noncomputable def outT (T:Tb) (p:Nat):Tb:=(kps T.length p).map fun a=>outR T p a
theorem outE_ok {sw:Int}{T:Tb} (ok:okT sw T) {p a b:Nat} (hp:p<T.length) (ha:a<T.length) (hb:b<T.length):okF sw (outE T p a b):=orL_ok' (ent_at ok ha hb).2 (andL_ok (ent_at ok ha hp).2 (ent_at ok hp hb).2)
theorem outR_ok {sw:Int}{T:Tb} (ok:okT sw T) {p a:Nat} (hp:p<T.length) (ha:a<T.length):okR sw (T.length - 1) (outR T p a):=by
 refine ⟨by unfold outR; rw [List.length_map,kps_len hp],fun l hl=>?_⟩
 obtain ⟨b,hb,rfl⟩:=List.mem_map.mp hl
 exact outE_ok ok hp ha (kps_mem.mp hb).1
theorem outT_len {T:Tb}{p:Nat} (hp:p<T.length):(outT T p).length=T.length - 1:=by unfold outT; rw [List.length_map,kps_len hp]
theorem outT_ok {sw:Int}{T:Tb} (ok:okT sw T) {p:Nat} (hp:p<T.length) (h3:3≤T.length):okT sw (outT T p):=by
 have h7:=ok.2.1
 refine ⟨by rw [outT_len hp]; omega,by rw [outT_len hp]; omega,fun r hr=>?_⟩
 rw [outT_len hp]
 obtain ⟨a,ha,rfl⟩:=List.mem_map.mp hr
 exact outR_ok ok hp (kps_mem.mp ha).1
open PySem L2 Mt
variable {cl:Nat→CLL}
structure HO2 (cl:Nat→CLL):Prop where
 rw:Hs_row_without cl
 to:Hs_taken_out cl
 wb:Hs_where_both cl
 we:Hs_where_either cl
 wh:Hs_is_whole cl
theorem rw_run (c:CLL) {Td ra rp l1 l2 l3 b1 b2:D}{a p o:Int}{k:Nat}{L:List D}{w5:Option D}{S S1 S2:Store} (hne:¬ o=p) (e1:∀ S,oIx Td (.int a) S=.ok ra S) (e2:∀ S,oIx ra (.int p) S=.ok l1 S) (e3:∀ S,oIx Td (.int p) S=.ok rp S) (e4:∀ S,oIx rp (.int o) S=.ok l2 S) (e5:∀ S,oIx ra (.int o) S=.ok l3 S)
  (w1:c "where_both" [l1,l2] S=.ok b1 S1) (t:tyOk "list" (.lst k) S1=true) (w2:c "where_either" [l3,b1] S1=.ok b2 S2) (m:mList gAppend (.lst k) [b2] S2=.ok .non (S2.set k (.lst (L++[b2])))) :
  row_without_l1 c [some Td,some (.int a),some (.int p),some (.lst k),some (.int o),w5] S=.nx [some Td,some (.int a),some (.int p),some (.lst k),some (.int o),some b1] (S2.set k (.lst (L++[b2]))):=by
 simp [row_without_l1,hne,e1,e2,e3,e4,e5,w1,t,w2,m]
theorem rw_run0 (c:CLL) {Td:D}{a p:Int}{k:Nat}{w5:Option D}{S:Store} :
  row_without_l1 c [some Td,some (.int a),some (.int p),some (.lst k),some (.int p),w5] S=.nx [some Td,some (.int a),some (.int p),some (.lst k),some (.int p),w5] S:=by
 simp [row_without_l1]
theorem rw_end (c:CLL) {Td:D}{a p z:Int}{m:Nat}{R:List D}{v4 v5:Option D}{S S1:Store} (fl:∀ S,fLen [Td] S=.ok (.int z) S) (f1:-4611686018427387904≤z) (f2:z<4611686018427387904) (ta:z.toNat=m)
  (e:loopS [] (gN 4) (row_without_l1 c) (upD 0 m) [some Td,some (.int a),some (.int p),some (.lst S.length),none,none] (S++[.lst []])=.nx [some Td,some (.int a),some (.int p),some (.lst S.length),v4,v5] S1) (t:fTuple [.lst S.length] S1=.ok (.tup R) S1) :
  b_row_without c [some Td,some (.int a),some (.int p),none,none,none] S=.rt (.tup R) S1:=by
 simp [b_row_without,fl,f1,f2,ta,e,t]
theorem app_ev {S:Store}{k:Nat}{L:List D}{x:D} (l:lstAt S k=some L) (hl:L.length<lim):mList gAppend (.lst k) [x] S=.ok .non (S.set k (.lst (L++[x]))):=by
 rw [mList_ev l gAppend [x]]
 have:gAppend L [x]=some (L++[x],.non):=by simp [gAppend,hl]
 rw [this]
theorem tD_len {T:Tb} (S:Store):fLen [tD T] S=.ok (.int (T.length:Nat)) S:=by
 unfold tD; rw [fLen_tup,List.length_map]
theorem kps_succ {n p:Nat}:kps (n+1) p=if n=p then kps n p else kps n p++[n]:=by
 unfold kps
 rw [List.range_succ,List.filter_append,List.filter_cons,List.filter_nil]
 by_cases h:n=p
 ·subst h; simp
 ·have:(n != p)=true:=by simpa using h
  rw [this,if_pos rfl,if_neg h]
theorem kps_le {n p:Nat}:(kps n p).length≤n:=by
 unfold kps; exact Nat.le_trans (List.length_filter_le ..) (by rw [List.length_range]; exact Nat.le_refl _)
inductive RwI (Td:D) (a p:Nat) (k:Nat) (S0:Store) (f:Nat→List Int) (j:Nat) (ρ:Env1) (S:Store):Prop
 | mk (v4 v5:Option D) (e:ρ=[some Td,some (.int (a:Nat)),some (.int (p:Nat)),some (.lst k),v4,v5]) (kp:Kp (·=k) S0 S) (l:lstAt S k=some ((kps j p).map fun b=>bitsD (f b)))
theorem row_without_spec (H:HO2 cl) (n:Nat) {sw:Int} (h4:sw≤4) {T:Tb} (ok:okT sw T) {a p:Nat} (ha:a<T.length) (hp:p<T.length) (S:Store):Spc (cl (n+2) "row_without" [tD T,.int (a:Nat),.int (p:Nat)] S) (rowD (outR T p a)) S:=by
 have h7:=ok.2.1
 obtain ⟨Td,hTd⟩:∃ Td,tD T=Td:=⟨_,rfl⟩
 obtain ⟨ρ',S1,e1,v4,v5,hρ,kp,l1⟩:=loop_inv (w:=[]) (g:=gN 4) (b:=row_without_l1 (cl (n+1))) (items:=upD 0 T.length) (RwI Td a p S.length (S++[.lst []]) (fun b=>outE T p a b))
  (ρ:=[some Td,some (.int (a:Nat)),some (.int (p:Nat)),some (.lst S.length),none,none]) (S:=S++[.lst []]) (fun _ _ _ _=>okW_nil _) ⟨none,none,rfl,Kp.refl _ _,by rw [lstAt_new]; rfl⟩
  (fun j d ρ S' hd hp'=>by
   obtain ⟨v4,v5,rfl,kp,l⟩:=hp'
   rw [upD_get] at hd
   obtain ⟨hj,rfl⟩:=hd
   have hz:(0+(j:Int))=((j:Nat):Int):=Int.zero_add _
   rw [hz]
   by_cases hjp:j=p
   ·subst hjp
    exact ⟨_,_,rfl,_,S',.inl (rw_run0 _),⟨_,_,rfl,kp,by rw [l,kps_succ,if_pos rfl]⟩⟩
   ·obtain ⟨S2,w1,x1⟩:=where_both_spec H.wb n (okF_len h4 (ent_at ok ha hp).2) (ent_at ok ha hp).2.2 (ent_at ok hp hj).2.2 S'
    obtain ⟨S3,w2,x2⟩:=where_either_spec H.we n (okF_len h4 (ent_at ok ha hj).2) (ent_at ok ha hj).2.2 (andL_ok (ent_at ok ha hp).2 (ent_at ok hp hj).2).2 S2
    replace w2:cl (n+1) "where_either" [bitsD (ent T a j),bitsD (andL (ent T a p) (ent T p j))] S2=.ok (bitsD (outE T p a j)) S3:=w2
    have l2:=x1.lst l fun z=>z
    have l3:=x2.lst l2 fun z=>z
    have hlim:((kps j p).map fun b=>bitsD (outE T p a b)).length<lim:=by rw [List.length_map,lim_eq]; have:=@kps_le j p; omega
    refine ⟨_,_,rfl,_,_,.inl (rw_run _ (o:=((j:Nat):Int)) (p:=((p:Nat):Int)) (by omega) (fun S=>by rw [← hTd]; exact ix_row ok ha S) (fun S=>ix_ent ok ha hp S) (fun S=>by rw [← hTd]; exact ix_row ok hp S) (fun S=>ix_ent ok hp hj S) (fun S=>ix_ent ok ha hj S) w1 (tyOk_lst l2) w2 (app_ev l3 hlim)),⟨_,_,rfl,((kp.trans x1.kp).trans x2.kp).trans (kp_set _ _),?_⟩⟩
    rw [lstAt_set l3,kps_succ,if_neg hjp,List.map_append]; rfl)
 subst hρ
 rw [upD_len] at l1
 refine ⟨S1,?_,⟨by have:=kp.le; simp at this; omega,fun j hj _=>by rw [kp.eq j (by simp; omega) (by omega),List.getElem?_append_left hj]⟩⟩
 rw [show n+2=(n+1)+1 from rfl,H.rw,hTd]
 have t:fTuple [.lst S.length] S1=.ok (.tup ((outR T p a).map bitsD)) S1:=by unfold outR; rw [List.map_map]; exact fTuple_lst l1
 exact run_rt rfl (rw_end _ (z:=((T.length:Nat):Int)) (fun S=>by rw [← hTd]; exact tD_len S) (by omega) (by omega) (Int.toNat_natCast _) e1 t)
theorem to_t (c:CLL) {a p:Int}{Td:D}{S:Store}:taken_out_t1 c [some (.int a),some Td,some (.int p)] S=.ok (!decide (a=p)) S:=by
 simp [taken_out_t1]
theorem to_e (c:CLL) {a p:Int}{Td r:D}{S S1:Store} (e:c "row_without" [Td,.int a,.int p] S=.ok r S1):taken_out_e1 c [some (.int a),some Td,some (.int p)] S=.ok r S1:=by
 simp [taken_out_e1,e]
theorem tko_run (c:CLL) {Td:D}{p z:Int}{m:Nat}{R:List D}{S S1 S2 S3:Store} (ew:c "is_whole" [.int p] S=.ok (.bl true) S1) (fl:∀ S,fLen [Td] S=.ok (.int z) S) (p2:2≤p) (pz:p<z) (f1:-4611686018427387904≤z) (f2:z<4611686018427387904) (ta:z.toNat=m) (hm:(upD 0 m).length<lim)
  (e1:loopC [] .one (taken_out_t1 c) (taken_out_e1 c) [none,some Td,some (.int p)] (upD 0 m) S1=.ok R S2) (h3:S2++[.lst R]=S3) (t:fTuple [.lst S2.length] S3=.ok (.tup R) S3):b_taken_out c [some Td,some (.int p)] S=.rt (.tup R) S3:=by
 simp [b_taken_out,ew,fl,p2,pz,f1,f2,ta,hm,e1,h3,t]
theorem taken_out_spec (H:HO2 cl) (n:Nat) {sw:Int} (h4:sw≤4) {T:Tb} (ok:okT sw T) {p:Nat} (p2:2≤p) (hp:p<T.length) (S:Store):Spc (cl (n+3) "taken_out" [tD T,.int (p:Nat)] S) (tD (outT T p)) S:=by
 have h7:=ok.2.1
 have ew:=is_whole_any H.wh (n+1) (kd_int S ((p:Nat):Int))
 obtain ⟨S2,e1,x1⟩:=comp_goM (fun (k:Nat)=>D.int (k:Int)) (w:=[]) (t:=.one) (tc:=taken_out_t1 (cl (n+2))) (c:=taken_out_e1 (cl (n+2))) (ρ0:=[none,some (tD T),some (.int (p:Nat))]) (fun S'=>Ex S S') (fun S' _=>okW_nil _) (fun a=>a != p) (fun a=>rowD (outR T p a)) (List.range T.length) (Kp.refl _ _)
  (fun a ha S' x=>by
   have ha':=List.mem_range.mp ha
   have hb:(!decide (((a:Nat):Int)=((p:Nat):Int)))=(a != p):=by
    by_cases h:a=p
    ·subst h; simp
    ·have:¬ ((a:Int)=(p:Int)):=by omega
     simp [h,this]
   obtain ⟨S1,e,x1⟩:=row_without_spec H n h4 ok ha' hp S'
   exact ⟨_,rfl,S',by rw [← hb]; exact to_t _,fun _=>x,fun _=>⟨S1,to_e _ e,x.trans x1⟩⟩)
 rw [← up_map] at e1
 obtain ⟨S3,h3⟩:∃ S3,S2++[O.lst (((List.range T.length).filter fun a=>a != p).map fun a=>rowD (outR T p a))]=S3:=⟨_,rfl⟩
 refine ⟨S3,?_,x1.trans (by rw [← h3]; exact ex_app _ _)⟩
 rw [show n+3=(n+2)+1 from rfl,H.to]
 have ht:tD (outT T p)=.tup (((List.range T.length).filter fun a=>a != p).map fun a=>rowD (outR T p a)):=by unfold tD outT kps; rw [List.map_map]; rfl
 rw [ht]
 exact run_rt rfl (tko_run _ (z:=((T.length:Nat):Int)) ew (fun S=>tD_len S) (by omega) (by omega) (by omega) (by omega) (Int.toNat_natCast _) (by rw [upD_len,lim_eq]; omega) e1 h3 (by rw [← h3]; exact fTuple_lst (lstAt_new _ _)))
open PySem L2 Mt
variable {cl:Nat→CLL}
inductive LoR (Td:D) (p q f a k:Nat) (S0:Store) (P:List Nat) (g:Nat→List Int) (j:Nat) (ρ:Env1) (S:Store):Prop
 | mk (v6:Option D) (e:ρ=[some Td,some (.int (p:Nat)),some (.lst q),some (.lst f),some (.int (a:Nat)),some (.lst k),v6]) (kp:Kp (·=k) S0 S) (l:lstAt S k=some ((P.take j).map fun b=>bitsD (g b)))
structure HO3 (cl:Nat→CLL):Prop where
 lo:Hs_law_out cl
 lb:Hs_law_both cl
 le:Hs_law_either cl
inductive LoT (Td:D) (p q f:Nat) (S0:Store) (P:List Nat) (g:Nat→List (List Int)) (j:Nat) (ρ:Env1) (S:Store):Prop
 | mk (v4 v5 v6:Option D) (e:ρ=[some Td,some (.int (p:Nat)),some (.lst q),some (.lst f),v4,v5,v6]) (kp:Kp (·=f) S0 S) (l:lstAt S f=some ((P.take j).map fun a=>rowD (g a)))
open PySem L2 Mt
variable {cl:Nat→CLL}
theorem tab_plain (T:Tb):plain 40 (tD T)=true:=plain_tup (n:=39) fun x hx=>by
 obtain ⟨r,_,rfl⟩:=List.mem_map.mp hx
 exact plain_tup (n:=38) fun y hy=>by
  obtain ⟨l,_,rfl⟩:=List.mem_map.mp hy
  exact plain_tup (n:=37) (plain_ints (by decide) l)
theorem eqB_tab (T U:Tb):eqB (tD T) (tD U)=pB (T=U):=pB_of (eqB_iff.trans ⟨tD_inj,fun e=>by rw [e]⟩)
theorem eq_tab (T U:Tb) (S:Store):oEq (tD T) (tD U) S=.ok (.bl (pB (T=U))) S:=by rw [oEq_plain S (tab_plain T) (tab_plain U),eqB_tab]
theorem ne_tab (T U:Tb) (S:Store):oNe (tD T) (tD U) S=.ok (.bl (!pB (T=U))) S:=by rw [oNe_plain S (tab_plain T) (tab_plain U),eqB_tab]
theorem boolsOf_g {α:Type} (f:α→Bool):∀ l:List α,boolsOf (l.map fun d=>D.bl (f d))=some (l.map f)
 | []=>rfl
 | _::r=>by
  show (boolsOf (r.map fun d=>D.bl (f d))).map (_::·)=_
  rw [boolsOf_g f r]; rfl
theorem fBools_g {α:Type}{S:Store}{n:Nat} (g:List Bool→Bool) (f:α→Bool) (l:List α) (h:lstAt S n=some (l.map fun d=>D.bl (f d))):fBools g [.lst n] S=.ok (.bl (g (l.map f))) S:=by
 unfold fBools
 dsimp only
 rw [h]
 show (match boolsOf (l.map fun d=>D.bl (f d)) with | some bs=>R.ok (D.bl (g bs)) S | none=>.bad)=_
 rw [boolsOf_g]
def stepP (T U:Tb):Prop:=∃ p,2≤p∧p<T.length∧outT T p=U
theorem step_any (T U:Tb):((List.range (T.length - 2)).map fun i=>pB (outT T (2+i)=U)).any id=pB (stepP T U):=pB_of (by
 rw [List.any_map,List.any_eq_true]
 constructor
 ·rintro ⟨i,hi,h⟩
  have hi':=List.mem_range.mp hi
  exact ⟨2+i,by omega,by omega,pB_iff.mp h⟩
 ·rintro ⟨p,p2,hp,e⟩
  exact ⟨p - 2,List.mem_range.mpr (by omega),pB_iff.mpr (by rw [show 2+(p - 2)=p by omega]; exact e)⟩)
theorem up2_map (m:Nat):upD 2 m=(List.range m).map fun (i:Nat)=>D.int ((2+i:Nat):Int):=by
 unfold upD
 congr 1
theorem fo_e (c:CLL) {p:Int}{Td Ud od:D}{b:Bool}{S S1:Store} (e:c "taken_out" [Td,.int p] S=.ok od S1) (q:oEq od Ud S1=.ok (.bl b) S1):follows_e1 c [some (.int p),some Td,some Ud] S=.ok (.bl b) S1:=by
 simp [follows_e1,e,q]
theorem fo_run (c:CLL) {Td Ud:D}{z:Int}{m:Nat}{R:List D}{b:Bool}{S S1 S2:Store} (fl:∀ S,fLen [Td] S=.ok (.int z) S) (f1:-4611686018427387904≤z) (f2:z<4611686018427387904) (ta:(z - 2).toNat=m) (hm:(upD 2 m).length<lim)
  (e1:loopC [] .one (fun _=>ret true) (follows_e1 c) [none,some Td,some Ud] (upD 2 m) S=.ok R S1) (h2:S1++[.lst R]=S2) (fb:fBools (fun bs=>bs.any id) [.lst S1.length] S2=.ok (.bl b) S2):b_follows c [some Td,some Ud] S=.rt (.bl b) S2:=by
 simp [b_follows,fl,f1,f2,ta,hm,e1,h2,fb]
theorem follows_spec (h:Hs_follows cl) (H:HO2 cl) (n:Nat) {sw:Int} (h4:sw≤4) {T:Tb} (ok:okT sw T) (U:Tb) (S:Store):Spc (cl (n+4) "follows" [tD T,tD U] S) (.bl (pB (stepP T U))) S:=by
 have h7:=ok.2.1
 have h2:=ok.1
 obtain ⟨S1,e1,x1⟩:=comp_mapM (fun (i:Nat)=>D.int ((2+i:Nat):Int)) (w:=[]) (t:=.one) (c:=follows_e1 (cl (n+3))) (ρ0:=[none,some (tD T),some (tD U)]) (fun S'=>Ex S S') (fun S' _=>okW_nil _) (fun i=>D.bl (pB (outT T (2+i)=U))) (List.range (T.length - 2)) (Kp.refl _ _)
  (fun i hi S' x=>by
   have hi':=List.mem_range.mp hi
   obtain ⟨S2,e,x2⟩:=taken_out_spec H n h4 ok (p:=2+i) (by omega) (by omega) S'
   exact ⟨_,rfl,S2,fo_e _ e (eq_tab _ _ S2),x.trans x2⟩)
 rw [← up2_map] at e1
 obtain ⟨S2,h2'⟩:∃ S2,S1++[O.lst ((List.range (T.length - 2)).map fun i=>D.bl (pB (outT T (2+i)=U)))]=S2:=⟨_,rfl⟩
 refine ⟨S2,?_,x1.trans (by rw [← h2']; exact ex_app _ _)⟩
 rw [show n+4=(n+3)+1 from rfl,h]
 have fb:=fBools_g (fun bs=>bs.any id) (fun i=>pB (outT T (2+i)=U)) (List.range (T.length - 2)) (S:=S2) (n:=S1.length) (by rw [← h2']; exact lstAt_new _ _)
 rw [step_any] at fb
 exact run_rt rfl (fo_run _ (z:=((T.length:Nat):Int)) (fun S=>tD_len S) (by omega) (by omega) (by omega) (by rw [upD_len,lim_eq]; omega) e1 h2' fb)
theorem switches_spec (h:Hs_switches_of cl) (n:Nat) {sw:Int} (h1:1≤sw) (h4:sw≤4) {l:List Int} (ok:okF sw l) (S:Store):cl (n+1) "switches_of" [bitsD l] S=.ok (.int sw) S:=by
 rw [h]
 have hl:(l.map D.int).length=2 ^ sw.toNat:=by rw [List.length_map]; exact ok.1
 have hs:sw=1∨sw=2∨sw=3∨sw=4:=by omega
 refine run_rt rfl ?_
 show b_switches_of (cl n) [some (.tup (l.map D.int))] S=_
 have fl:fLen [.tup (l.map D.int)] S=.ok (.int ((2 ^ sw.toNat:Nat):Int)) S:=by rw [fLen_tup,hl]
 generalize l.map D.int=X at fl
 rcases hs with rfl | rfl | rfl | rfl <;> simp [b_switches_of,fl] <;> rfl
open PySem L2 Mt
variable {cl:Nat→CLL}
def tkQ (T:Tb) (Us:List Tb):Prop:=Us.head?=some T∧(∃ U,Us.getLast?=some U∧U.length=2)∧∀ q∈Us.zip (Us.drop 1),stepP q.1 q.2
def tkP (sw:Int) (T:Tb) (d:D):Prop:=∃ Us:List Tb,d=.tup (Us.map tD)∧(∀ U∈Us,okT sw U∧gdT U)∧tkQ T Us
theorem mapT_inj {Us Vs:List Tb} (h:Us.map tD=Vs.map tD):Us=Vs:=(List.map_inj_right fun _ _ e=>tD_inj e).mp h
theorem tk_of {sw:Int}{T:Tb}{Us:List Tb} (ok:∀ U∈Us,okT sw U∧gdT U):tkP sw T (.tup (Us.map tD))↔tkQ T Us :=
 ⟨fun ⟨Vs,e,_,q⟩=>by
  have h':Us.map tD=Vs.map tD:=by injection e
  rw [mapT_inj h']; exact q,fun q=>⟨Us,rfl,ok,q⟩⟩
theorem tk_no {sw:Int}{T:Tb}{d:D} (h:isT d=false):¬ tkP sw T d:=by
 rintro ⟨Us,rfl,_⟩; cases h
theorem tk_nil {sw:Int}{T:Tb}:¬ tkP sw T (.tup []):=by
 rintro ⟨Us,e,_,q,_⟩
 have h':[]=Us.map tD:=by injection e
 cases Us with
 | nil=>cases q
 | cons _ _=>cases h'
theorem tk_all {sw:Int}{T:Tb}{X:List D} (h:(X.map fun d=>pB (tabP sw d)).all id=false):¬ tkP sw T (.tup X):=by
 rintro ⟨Us,e,ok,_⟩
 have h':X=Us.map tD:=by injection e
 have:=(all_ex tD (fun U=>okT sw U∧gdT U) X).mpr ⟨Us,h',ok⟩
 have hh:(X.map fun d=>pB (tabP sw d)).all id=true:=this
 rw [h] at hh; cases hh
theorem zip_tab (Us:List Tb):zipD (Us.map tD) ((Us.drop 1).map tD)=(Us.zip (Us.drop 1)).map fun q=>.tup [tD q.1,tD q.2]:=by
 unfold zipD; rw [List.zip_map,List.map_map]; rfl
theorem step_all (Us:List Tb):((Us.zip (Us.drop 1)).map fun q=>pB (stepP q.1 q.2)).all id=pB (∀ q∈Us.zip (Us.drop 1),stepP q.1 q.2):=pB_of (by
 rw [List.all_map,List.all_eq_true]
 exact ⟨fun h q hq=>pB_iff.mp (h q hq),fun h q hq=>pB_iff.mpr (h q hq)⟩)
theorem ik_run0 (c:CLL) {Td d:D}{S:Store} (i:fInst [d,.ty "tuple"] S=.ok (.bl false) S):b_is_taking c [some Td,some d,none] S=.rt (.bl false) S:=by
 simp [b_is_taking,i]
theorem ik_run1 (c:CLL) {Td:D}{S:Store} (i:fInst [.tup [],.ty "tuple"] S=.ok (.bl true) S):b_is_taking c [some Td,some (.tup []),none] S=.rt (.bl false) S:=by
 simp [b_is_taking,i]
theorem ik_run2 (c:CLL) {Td r0 l0:D}{X bs:List D}{sw:Int}{S S1 S2:Store} (i:fInst [.tup X,.ty "tuple"] S=.ok (.bl true) S) (hX:X.isEmpty=false) (i1:oIx Td (.int 0) S=.ok r0 S) (i2:oIx r0 (.int 0) S=.ok l0 S) (es:c "switches_of" [l0] S=.ok (.int sw) S) (hl:X.length<lim)
  (e1:loopC [] .one (fun _=>ret true) (is_taking_e2 c) [none,some (.int sw)] X S=.ok bs S1) (h1:S1++[.lst bs]=S2) (fb:fBools (fun bs=>bs.all id) [.lst S1.length] S2=.ok (.bl false) S2):b_is_taking c [some Td,some (.tup X),none] S=.rt (.bl false) S2:=by
 simp [b_is_taking,i,hX,i1,i2,es,hl,e1,h1,fb]
theorem ik_run3 (c:CLL) {Td r0 l0 x0:D}{X bs:List D}{sw:Int}{S S1 S2:Store} (i:fInst [.tup X,.ty "tuple"] S=.ok (.bl true) S) (hX:X.isEmpty=false) (i1:oIx Td (.int 0) S=.ok r0 S) (i2:oIx r0 (.int 0) S=.ok l0 S) (es:c "switches_of" [l0] S=.ok (.int sw) S) (hl:X.length<lim)
  (e1:loopC [] .one (fun _=>ret true) (is_taking_e2 c) [none,some (.int sw)] X S=.ok bs S1) (h1:S1++[.lst bs]=S2) (fb:fBools (fun bs=>bs.all id) [.lst S1.length] S2=.ok (.bl true) S2) (a0:atI X 0=some x0) (q:oNe x0 Td S2=.ok (.bl true) S2):b_is_taking c [some Td,some (.tup X),none] S=.rt (.bl false) S2:=by
 simp [b_is_taking,i,hX,i1,i2,es,hl,e1,h1,fb,a0,q]
theorem ik_run4 (c:CLL) {Td r0 l0 x0 xl:D}{X bs:List D}{sw z:Int}{S S1 S2:Store} (i:fInst [.tup X,.ty "tuple"] S=.ok (.bl true) S) (hX:X.isEmpty=false) (i1:oIx Td (.int 0) S=.ok r0 S) (i2:oIx r0 (.int 0) S=.ok l0 S) (es:c "switches_of" [l0] S=.ok (.int sw) S) (hl:X.length<lim)
  (e1:loopC [] .one (fun _=>ret true) (is_taking_e2 c) [none,some (.int sw)] X S=.ok bs S1) (h1:S1++[.lst bs]=S2) (fb:fBools (fun bs=>bs.all id) [.lst S1.length] S2=.ok (.bl true) S2) (a0:atI X 0=some x0) (q:oNe x0 Td S2=.ok (.bl false) S2) (al:atI X (-1)=some xl) (fl:∀ S,fLen [xl] S=.ok (.int z) S) (hz:¬ z=2):b_is_taking c [some Td,some (.tup X),none] S=.rt (.bl false) S2:=by
 simp [b_is_taking,i,hX,i1,i2,es,hl,e1,h1,fb,a0,q,al,fl,hz]
theorem ik_run5 (c:CLL) {Td r0 l0 x0 xl:D}{X Y bs cs:List D}{sw:Int}{b:Bool}{S S1 S2 S3 S4:Store} (i:fInst [.tup X,.ty "tuple"] S=.ok (.bl true) S) (hX:X.isEmpty=false) (i1:oIx Td (.int 0) S=.ok r0 S) (i2:oIx r0 (.int 0) S=.ok l0 S) (es:c "switches_of" [l0] S=.ok (.int sw) S) (hl:X.length<lim)
  (e1:loopC [] .one (fun _=>ret true) (is_taking_e2 c) [none,some (.int sw)] X S=.ok bs S1) (h1:S1++[.lst bs]=S2) (fb:fBools (fun bs=>bs.all id) [.lst S1.length] S2=.ok (.bl true) S2) (a0:atI X 0=some x0) (q:oNe x0 Td S2=.ok (.bl false) S2) (al:atI X (-1)=some xl) (fl:∀ S,fLen [xl] S=.ok (.int 2) S)
  (hc:cutD X (some 1) none=Y) (hz:(zipD X Y).length<lim) (e3:loopC [] (.many 2) (fun _=>ret true) (is_taking_e1 c) [none,none] (zipD X Y) S2=.ok cs S3) (h4:S3++[.lst cs]=S4) (f2:fBools (fun bs=>bs.all id) [.lst S3.length] S4=.ok (.bl b) S4):b_is_taking c [some Td,some (.tup X),none] S=.rt (.bl b) S4:=by
 simp [b_is_taking,i,hX,i1,i2,es,hl,e1,h1,fb,a0,q,al,fl,hc,hz,e3,h4,f2]
theorem atI_last {X:List D}{x:D} (h:X.getLast?=some x):atI X (-1)=some x:=by
 have hn:X≠[]:=by rintro rfl; cases h
 have hl:0<X.length:=List.length_pos_iff.mpr hn
 rw [List.getLast?_eq_getElem?] at h
 unfold atI ixN
 have h1:¬ (0:Int)≤-1:=by decide
 simp only [h1,if_false]
 rw [if_pos (by omega)]
 show X[(-1+(X.length:Int)).toNat]?=some x
 rw [show (-1+(X.length:Int)).toNat=X.length - 1 by omega]; exact h
structure HTi (cl:Nat→CLL):Prop where
 b:HB cl
 it:Hs_is_table cl
 ir:Hs_is_row cl
 sb:Hs_same_both_ways cl
 o2:HO2 cl
 fo:Hs_follows cl
 ik:Hs_is_taking cl
 so:Hs_switches_of cl
structure HTk (cl:Nat→CLL):Prop where
 i:HTi cl
 t:HTb cl
 o3:HO3 cl
 du:Hs_law_due_v2 cl
open PySem L2 Mt
variable {cl:Nat→CLL}
theorem inst_tup (X:List D) (S:Store):fInst [.tup X,.ty "tuple"] S=.ok (.bl true) S:=inst_T (kd_tup S X)
theorem cut1 (Us:List Tb):cutD (Us.map tD) (some 1) none=(Us.drop 1).map tD:=by
 rw [cutD_drop _ (by decide),List.map_drop]; rfl
theorem zip_len (Us:List Tb) (h:Us.length≤1000):(zipD (Us.map tD) ((Us.drop 1).map tD)).length<lim:=by
 rw [zip_tab,List.length_map,List.length_zip,lim_eq]; omega
theorem ik_e2 (c:CLL) {sw:Int}{d:D}{b:Bool}{S S1:Store} (e:c "is_table" [.int sw,d] S=.ok (.bl b) S1):is_taking_e2 c [some d,some (.int sw)] S=.ok (.bl b) S1:=by
 simp [is_taking_e2,e]
theorem ik_e1 (c:CLL) {x y:D}{b:Bool}{S S1:Store} (e:c "follows" [x,y] S=.ok (.bl b) S1):is_taking_e1 c [some x,some y] S=.ok (.bl b) S1:=by
 simp [is_taking_e1,e]
theorem is_taking_any (H:HTi cl) (n:Nat) {sw:Int} (h1:1≤sw) (h4:sw≤4) {T:Tb} (ok:okT sw T) {S:Store}{d:D} (hk:Nk S 4 d):Spc (cl (n+6) "is_taking" [tD T,d] S) (.bl (pB (tkP sw T d))) S:=by
 have hr:∀ S1 b,b_is_taking (cl (n+5)) [some (tD T),some d,none] S=.rt (.bl b) S1→Ex S S1→b=pB (tkP sw T d)→Spc (cl (n+6) "is_taking" [tD T,d] S) (.bl (pB (tkP sw T d))) S:=fun S1 b e x hb=>⟨S1,by rw [show n+6=(n+5)+1 from rfl,H.ik,← hb]; exact run_rt rfl e,x⟩
 cases hT:isT d with
 | false=>exact hr S false (ik_run0 _ (by rw [inst_T hk.k,hT])) (Kp.refl _ _) (pB_f (tk_no hT)).symm
 | true =>
  obtain ⟨X,rfl⟩:∃ X,d=.tup X:=by cases d <;> first | exact ⟨_,rfl⟩ | cases hT
  obtain ⟨hX,hx⟩:=hk.2 X rfl
  cases hE:X.isEmpty with
  | true =>
   have:X=[]:=List.isEmpty_iff.mp hE
   subst this
   exact hr S false (ik_run1 _ (inst_tup [] S)) (Kp.refl _ _) (pB_f tk_nil).symm
  | false =>
   have i1:=ix_row ok (show 0<T.length by have:=ok.1; omega) S
   have i2:=ix_ent ok (show 0<T.length by have:=ok.1; omega) (show 0<T.length by have:=ok.1; omega) S
   have es:=switches_spec H.so (n+4) h1 h4 (ent_at ok (show 0<T.length by have:=ok.1; omega) (show 0<T.length by have:=ok.1; omega)).2 S
   obtain ⟨S1,e1,x1⟩:=comp_map (w:=[]) (t:=.one) (c:=is_taking_e2 (cl (n+5))) (ρ0:=[none,some (.int sw)]) (fun S'=>Ex S S') (fun S' _=>okW_nil _) X (fun d=>D.bl (pB (tabP sw d))) (Kp.refl _ _)
    (fun d hd S' x=>by
     obtain ⟨S2,e2,x2⟩:=is_table_any H.it H.ir H.sb H.b n h1 h4 ((hx d hd).kd (kd_ex x))
     exact ⟨_,rfl,S2,ik_e2 _ e2,x.trans x2⟩)
   obtain ⟨S2,h2⟩:∃ S2,S1++[O.lst (X.map fun d=>D.bl (pB (tabP sw d)))]=S2:=⟨_,rfl⟩
   have x2:Ex S S2:=x1.trans (by rw [← h2]; exact ex_app _ _)
   have fb:=fBools_lst (fun bs=>bs.all id) (fun d=>pB (tabP sw d)) X (S:=S2) (n:=S1.length) (by rw [← h2]; exact lstAt_new _ _)
   have hl:X.length<lim:=by rw [lim_eq]; omega
   cases hA:(X.map fun d=>pB (tabP sw d)).all id with
   | false =>
    rw [hA] at fb
    exact hr S2 false (ik_run2 _ (inst_tup X S) hE i1 i2 es hl e1 h2 fb) x2 (pB_f (tk_all hA)).symm
   | true =>
    rw [hA] at fb
    obtain ⟨Us,rfl,okU⟩:=(all_ex tD (fun U=>okT sw U∧gdT U) X).mp hA
    have lU:Us.length≤1000:=by rw [List.length_map] at hX; exact hX
    cases Us with
    | nil=>cases hE
    | cons U0 Ur =>
     have a0:atI ((U0::Ur).map tD) ((0:Nat):Int)=some (tD U0):=atI_nat rfl
     have q:=ne_tab U0 T S2
     cases hU:pB (U0=T) with
     | false =>
      rw [hU] at q
      exact hr S2 false (ik_run3 _ (inst_tup _ S) hE i1 i2 es hl e1 h2 fb a0 q) x2 (pB_f fun z=>by
       have:=((tk_of okU).mp z).1
       rw [List.head?_cons] at this
       cases this
       rw [pB_t rfl] at hU; cases hU).symm
     | true =>
      rw [hU] at q
      have hUT:=pB_iff.mp hU
      obtain ⟨Ul,hUl⟩:∃ U,(U0::Ur).getLast?=some U:=⟨_,List.getLast?_eq_some_getLast (List.cons_ne_nil _ _)⟩
      have al:=atI_last (X:=(U0::Ur).map tD) (x:=tD Ul) (by rw [List.getLast?_map,hUl]; rfl)
      by_cases hz:Ul.length=2
      ·obtain ⟨S3,e3,x3⟩:=comp_mapM (fun (q:Tb × Tb)=>D.tup [tD q.1,tD q.2]) (w:=[]) (t:=.many 2) (c:=is_taking_e1 (cl (n+5))) (ρ0:=[none,none]) (fun S'=>Ex S2 S') (fun S' _=>okW_nil _) (fun q=>D.bl (pB (stepP q.1 q.2))) ((U0::Ur).zip ((U0::Ur).drop 1)) (Kp.refl _ _)
        (fun q hq S' x=>by
         obtain ⟨S3,e3,x3⟩:=follows_spec H.fo H.o2 (n+1) h4 (okU q.1 (List.of_mem_zip (a:=q.1) (b:=q.2) hq).1).1 q.2 S'
         exact ⟨[some (tD q.1),some (tD q.2)],rfl,S3,ik_e1 _ e3,x.trans x3⟩)
       rw [← zip_tab] at e3
       obtain ⟨S4,h4'⟩:∃ S4,S3++[O.lst (((U0::Ur).zip ((U0::Ur).drop 1)).map fun q=>D.bl (pB (stepP q.1 q.2)))]=S4:=⟨_,rfl⟩
       have f2:=fBools_g (fun bs=>bs.all id) (fun (q:Tb × Tb)=>pB (stepP q.1 q.2)) ((U0::Ur).zip ((U0::Ur).drop 1)) (S:=S4) (n:=S3.length) (by rw [← h4']; exact lstAt_new _ _)
       rw [step_all] at f2
       refine hr S4 _ (ik_run5 _ (inst_tup _ S) hE i1 i2 es hl e1 h2 fb a0 q al (fun S=>by rw [tD_len,hz]; rfl) (cut1 _) (zip_len _ lU) e3 h4' f2) (x2.trans (x3.trans (by rw [← h4']; exact ex_app _ _))) ?_
       refine bool_ext (pB_iff.trans (Iff.trans ?_ pB_iff.symm))
       rw [tk_of okU]
       exact ⟨fun z=>⟨by rw [List.head?_cons,hUT],⟨Ul,hUl,hz⟩,z⟩,fun z=>z.2.2⟩
      ·exact hr S2 false (ik_run4 _ (z:=((Ul.length:Nat):Int)) (inst_tup _ S) hE i1 i2 es hl e1 h2 fb a0 q al (fun S=>tD_len S) (by omega)) x2 (pB_f fun z=>by
        obtain ⟨V,hV,hl2⟩:=((tk_of okU).mp z).2.1
        rw [hUl] at hV; cases hV
        exact hz hl2).symm
open PySem L2 Mt
variable {cl:Nat→CLL}
inductive MaI (sw:Int) (i:Nat) (Td:D) (S0:Store) (m:Nat) (ρ:Env1) (S:Store):Prop
 | mk (Us:List Tb) (U:Tb) (e:ρ=[some (.lst i),some Td,some (.lst S0.length)]) (l:lstAt S S0.length=some (Us.map tD)) (ok:∀ U∈Us,okT sw U) (hl:Us.getLast?=some U) (hm:U.length=2+m) (hs:Us.length+m≤8) (kp:Kp (·=i) S0 S) (st:StOk S i)
inductive MaQ (sw:Int) (i:Nat) (Td:D) (S0:Store) (ρ:Env1) (S:Store):Prop
 | mk (Us:List Tb) (e:ρ=[some (.lst i),some Td,some (.lst S0.length)]) (l:lstAt S S0.length=some (Us.map tD)) (ok:∀ U∈Us,okT sw U) (h1:1≤Us.length) (hs:Us.length≤8) (kp:Kp (·=i) S0 S) (st:StOk S i)
inductive MadeR (r:R D) (sw:Int) (S:Store) (i:Nat):Prop
 | mk (Us:List Tb) (S':Store) (e:r=.ok (.tup (Us.map tD)) S') (ok:∀ U∈Us,okT sw U) (h1:1≤Us.length) (h8:Us.length≤8) (k:Kp (·=i) S S') (st:StOk S' i)
open PySem L2 Mt
variable {cl:Nat→CLL}
inductive BentR (r:R D) (S:Store) (i:Nat):Prop
 | mk (d:D) (S':Store) (e:r=.ok d S') (nk:Nk S' 4 d) (k:Kp (·=i) S S') (st:StOk S' i)
open PySem L2 Mt
variable {cl:Nat→CLL}
structure HL63 (cl:Nat→CLL):Prop where
 k:HTk cl
 st:Hs_law_state cl
 ce:Hs_law_cell_at cl
 ta:Hs_law_take cl
 tb:Hs_law_table cl
 ma:Hs_law_made cl
 od:Hs_law_odd_v3 cl
 be:Hs_law_bent_v8 cl
inductive T63 (sc jd st tk Td:D) (sw:Int) (q:Nat) (S0:Store) (j:Nat) (ρ:Env1) (S:Store):Prop
 | mk (w7 w8:Option D) (e:ρ=[some sc,some jd,some st,some (.int sw),some Td,some tk,some (.lst q),w7,w8]) (x:Ex S0 S)
inductive E9 (sc:D) (ρ:Env1):Prop
 | mk (w1 w2 w3 w4 w5 w6 w7 w8:Option D) (e:ρ=[some sc,w1,w2,w3,w4,w5,w6,w7,w8])
open PySem L2 Mt
def rel (T:Tb) (s a b:Nat):Prop:=a<T.length∧b<T.length∧(ent T a b)[s]?=some 1
theorem bits_ext {sw:Int}{l m:List Int} (hl:okF sw l) (hm:okF sw m) (h:∀ s:Nat,l[s]?=some 1↔m[s]?=some 1):l=m:=by
 refine List.ext_getElem? fun s=>?_
 have e:l.length=m.length:=by rw [hl.1,hm.1]
 by_cases hs:s<l.length
 ·have hs':s<m.length:=by rw [← e]; exact hs
  have h1:=hl.2 _ (List.getElem_mem hs)
  have h2:=hm.2 _ (List.getElem_mem hs')
  have h3:=h s
  rw [List.getElem?_eq_getElem hs,List.getElem?_eq_getElem hs'] at h3 ⊢
  simp only [Option.some.injEq] at h3 ⊢
  omega
 ·rw [List.getElem?_eq_none (by omega),List.getElem?_eq_none (by omega)]
theorem tab_ext {sw:Int}{T U:Tb} (hT:okT sw T) (hU:okT sw U) (hl:T.length=U.length) (h:∀ s a b,a<T.length→b<T.length→(rel T s a b↔rel U s a b)):T=U:=by
 refine List.ext_getElem hl fun a ha ha'=>?_
 have ra:=row_at hT ha
 have ra':=row_at hU ha'
 have ga:T[a]=T.getD a []:=by rw [List.getElem?_eq_getElem ha] at ra; exact Option.some.inj ra.1
 have ga':U[a]=U.getD a []:=by rw [List.getElem?_eq_getElem ha'] at ra'; exact Option.some.inj ra'.1
 rw [ga,ga']
 refine List.ext_getElem (by rw [ra.2.1,ra'.2.1,hl]) fun b hb hb'=>?_
 have hbT:b<T.length:=by rw [ra.2.1] at hb; exact hb
 have hbU:b<U.length:=by omega
 have eb:=ent_at hT ha hbT
 have eb':=ent_at hU ha' hbU
 have gb:(T.getD a [])[b]=ent T a b:=by rw [List.getElem?_eq_getElem hb] at eb; exact Option.some.inj eb.1
 have gb':(U.getD a [])[b]=ent U a b:=by rw [List.getElem?_eq_getElem hb'] at eb'; exact Option.some.inj eb'.1
 rw [gb,gb']
 refine bits_ext eb.2 eb'.2 fun s=>?_
 have:=h s a b ha hbT
 exact ⟨fun z=>(this.mp ⟨ha,hbT,z⟩).2.2,fun z=>(this.mpr ⟨ha',hbU,z⟩).2.2⟩
theorem rel_refl {sw:Int}{T:Tb} (ok:okT sw T) (g:gdT T) {s a:Nat} (hs:s<2 ^ sw.toNat) (ha:a<T.length):rel T s a a:=by
 refine ⟨ha,ha,?_⟩
 have e:=(ent_at ok ha ha).2
 have hs':s<(ent T a a).length:=by rw [e.1]; exact hs
 have h1:=e.2 _ (List.getElem_mem hs')
 have h0:(ent T a a)[s]≠0:=fun z=>g.1 a ha (z▸List.getElem_mem hs')
 rw [List.getElem?_eq_getElem hs']
 congr 1; omega
theorem rel_symm {T:Tb} (g:gdT T) {s a b:Nat} (h:rel T s a b):rel T s b a:=by
 refine ⟨h.2.1,h.1,?_⟩
 rcases Nat.lt_trichotomy a b with q | q | q
 ·rw [g.2 b h.2.1 a q]; exact h.2.2
 ·subst q; exact h.2.2
 ·rw [← g.2 a h.1 b q]; exact h.2.2
def Con (R:Nat→Nat→Prop) (a b:Nat):Prop:=∀ C:Nat→Prop,C a→(∀ x y,R x y→C x→C y)→C b
theorem Con.refl (R:Nat→Nat→Prop) (a:Nat):Con R a a:=fun _ h _=>h
theorem Con.step {R:Nat→Nat→Prop}{a b:Nat} (h:R a b):Con R a b:=fun _ c cc=>cc a b h c
theorem Con.trans {R:Nat→Nat→Prop}{a b c:Nat} (h:Con R a b) (k:Con R b c):Con R a c:=fun C c0 cc=>k C (h C c0 cc) cc
theorem Con.symm {R:Nat→Nat→Prop} (hs:∀ x y,R x y→R y x) {a b:Nat} (h:Con R a b):Con R b a:=h (fun x=>Con R x a) (Con.refl R a) fun x y r k=>(Con.step (hs x y r)).trans k
theorem Con.mono {R Q:Nat→Nat→Prop} (h:∀ x y,R x y→Con Q x y) {a b:Nat} (k:Con R a b):Con Q a b:=k (fun x=>Con Q a x) (Con.refl Q a) fun x y r c=>c.trans (h x y r)
noncomputable def sk (p i:Nat):Nat:=if i<p then i else i+1
theorem kps_sk {n p:Nat} (hp:p<n):kps n p=(List.range (n - 1)).map (sk p):=by
 induction n with
 | zero=>omega
 | succ n ih =>
  rw [kps_succ]
  by_cases h:n=p
  ·subst h
   rw [if_pos rfl]
   unfold kps
   rw [List.filter_eq_self.mpr (fun a ha=>by have:=List.mem_range.mp ha; simp; omega)]
   refine List.ext_getElem (by simp) fun i h1 h2=>?_
   have:i<n:=by simpa using h1
   simp [sk,this]
  ·rw [if_neg h,ih (by omega),show n+1 - 1=(n - 1)+1 by omega,List.range_succ,List.map_append]
   congr 1
   simp only [List.map_cons,List.map_nil,sk]
   rw [if_neg (by omega),show n - 1+1=n by omega]
theorem sk_lt {n p i:Nat} (hp:p<n) (hi:i<n - 1):sk p i<n∧sk p i≠p:=by unfold sk; split <;> omega
theorem sk_onto {n p x:Nat} (hx:x<n) (hxp:x≠p) (hp:p<n):∃ i,i<n - 1∧sk p i=x:=by
 by_cases h:x<p
 ·exact ⟨x,by omega,by unfold sk; rw [if_pos h]⟩
 ·exact ⟨x - 1,by omega,by unfold sk; rw [if_neg (by omega)]; omega⟩
theorem sk_inj {p i j:Nat} (h:sk p i=sk p j):i=j:=by unfold sk at h; split at h <;> split at h <;> omega
theorem ent_out {T:Tb}{p i j:Nat} (hp:p<T.length) (hi:i<T.length - 1) (hj:j<T.length - 1):ent (outT T p) i j=outE T p (sk p i) (sk p j):=by
 unfold ent outT outR
 rw [kps_sk hp]
 simp [List.getD,List.getElem?_map,List.getElem?_range hi,List.getElem?_range hj]
theorem zip_bit {f:Int→Int→Int}{l m:List Int}{s:Nat}{x:Int}:((l.zip m).map fun p=>f p.1 p.2)[s]?=some x↔∃ u v,l[s]?=some u∧m[s]?=some v∧f u v=x:=by
 rw [List.getElem?_map]
 constructor
 ·intro h
  obtain ⟨⟨u,v⟩,h1,h2⟩:=Option.map_eq_some_iff.mp h
  rw [List.getElem?_zip_eq_some] at h1
  exact ⟨u,v,h1.1,h1.2,h2⟩
 ·rintro ⟨u,v,h1,h2,h3⟩
  rw [(List.getElem?_zip_eq_some (z:=(u,v))).mpr ⟨h1,h2⟩]
  simp [h3]
theorem or_bit {sw:Int}{l m:List Int} (hl:okF sw l) (hm:okF sw m) {s:Nat}:(orL l m)[s]?=some 1↔l[s]?=some 1∨m[s]?=some 1:=by
 unfold orL
 rw [zip_bit (f:=fun u v=>if 0<u+v then 1 else 0)]
 constructor
 ·rintro ⟨u,v,h1,h2,h3⟩
  have a:=bit_or (hl.2 u (List.mem_of_getElem? h1))
  have b:=bit_or (hm.2 v (List.mem_of_getElem? h2))
  rcases a with rfl | rfl
  ·rcases b with rfl | rfl
   ·simp at h3
   ·exact .inr h2
  ·exact .inl h1
 ·intro h
  have e:l.length=m.length:=by rw [hl.1,hm.1]
  have hs:s<l.length:=by
   rcases h with h | h
   ·exact (List.getElem?_eq_some_iff.mp h).1
   ·rw [e]; exact (List.getElem?_eq_some_iff.mp h).1
  have h1:=List.getElem?_eq_getElem hs
  have h2:=List.getElem?_eq_getElem (show s<m.length by omega)
  have a:=hl.2 _ (List.getElem_mem hs)
  have b:=hm.2 _ (List.getElem_mem (show s<m.length by omega))
  refine ⟨_,_,h1,h2,?_⟩
  rw [h1,h2] at h
  simp only [Option.some.injEq] at h
  rw [if_pos (by omega)]
theorem and_bit {sw:Int}{l m:List Int} (hl:okF sw l) (hm:okF sw m) {s:Nat}:(andL l m)[s]?=some 1↔l[s]?=some 1∧m[s]?=some 1:=by
 unfold andL
 rw [zip_bit (f:=fun u v=>u*v)]
 constructor
 ·rintro ⟨u,v,h1,h2,h3⟩
  have a:=bit_or (hl.2 u (List.mem_of_getElem? h1))
  have b:=bit_or (hm.2 v (List.mem_of_getElem? h2))
  rcases a with rfl | rfl
  ·simp at h3
  ·rcases b with rfl | rfl
   ·simp at h3
   ·exact ⟨h1,h2⟩
 ·rintro ⟨h1,h2⟩
  exact ⟨1,1,h1,h2,rfl⟩
theorem rel_out {sw:Int}{T:Tb} (ok:okT sw T) {p s i j:Nat} (hp:p<T.length):rel (outT T p) s i j↔i<T.length - 1∧j<T.length - 1∧(rel T s (sk p i) (sk p j)∨rel T s (sk p i) p∧rel T s p (sk p j)):=by
 unfold rel
 rw [outT_len hp]
 constructor
 ·rintro ⟨hi,hj,h⟩
  have qi:=(sk_lt hp hi).1
  have qj:=(sk_lt hp hj).1
  rw [ent_out hp hi hj] at h
  unfold outE at h
  rw [or_bit (ent_at ok qi qj).2 (andL_ok (ent_at ok qi hp).2 (ent_at ok hp qj).2),and_bit (ent_at ok qi hp).2 (ent_at ok hp qj).2] at h
  exact ⟨hi,hj,h.imp (fun z=>⟨qi,qj,z⟩) fun z=>⟨⟨qi,hp,z.1⟩,hp,qj,z.2⟩⟩
 ·rintro ⟨hi,hj,h⟩
  have qi:=(sk_lt hp hi).1
  have qj:=(sk_lt hp hj).1
  refine ⟨hi,hj,?_⟩
  rw [ent_out hp hi hj]
  unfold outE
  rw [or_bit (ent_at ok qi qj).2 (andL_ok (ent_at ok qi hp).2 (ent_at ok hp qj).2),and_bit (ent_at ok qi hp).2 (ent_at ok hp qj).2]
  exact h.imp (fun z=>z.2.2) fun z=>⟨z.1.2.2,z.2.2.2⟩
open PySem L2 Mt
theorem gd_of_rel {sw:Int}{U:Tb} (ok:okT sw U) (hr:∀ s a,s<2 ^ sw.toNat→a<U.length→rel U s a a) (hs:∀ s a b,rel U s a b→rel U s b a):gdT U:=by
 refine ⟨fun a ha z=>?_,fun a ha b hb=>?_⟩
 ·have e:=(ent_at ok ha ha).2
  obtain ⟨s,hs',hz⟩:=List.mem_iff_getElem.mp z
  have h1:=(hr s a (by rw [← e.1]; exact hs') ha).2.2
  rw [List.getElem?_eq_getElem hs',hz] at h1
  cases h1
 ·have hbl:b<U.length:=by omega
  refine bits_ext (ent_at ok ha hbl).2 (ent_at ok hbl ha).2 fun s=>?_
  exact ⟨fun z=>(hs s a b ⟨ha,hbl,z⟩).2.2,fun z=>(hs s b a ⟨hbl,ha,z⟩).2.2⟩
theorem rel_lt {sw:Int}{T:Tb} (ok:okT sw T) {s a b:Nat} (h:rel T s a b):s<2 ^ sw.toNat:=by
 rw [← (ent_at ok h.1 h.2.1).2.1]; exact (List.getElem?_eq_some_iff.mp h.2.2).1
theorem out_gd {sw:Int}{T:Tb} (ok:okT sw T) (g:gdT T) {p:Nat} (hp:p<T.length) (h3:3≤T.length):gdT (outT T p):=by
 refine gd_of_rel (outT_ok ok hp h3) (fun s a hs ha=>?_) fun s a b h=>?_
 ·rw [outT_len hp] at ha
  exact (rel_out ok hp).mpr ⟨ha,ha,.inl (rel_refl ok g hs (sk_lt hp ha).1)⟩
 ·obtain ⟨h1,h2,h3⟩:=(rel_out ok hp).mp h
  exact (rel_out ok hp).mpr ⟨h2,h1,h3.imp (rel_symm g) fun z=>⟨rel_symm g z.2,rel_symm g z.1⟩⟩
theorem con_out {sw:Int}{T:Tb} (ok:okT sw T) (g:gdT T) {p s i j:Nat} (hp:p<T.length) (hi:i<T.length - 1) (hj:j<T.length - 1):Con (rel (outT T p) s) i j↔Con (rel T s) (sk p i) (sk p j):=by
 constructor
 ·intro h
  refine h (fun x=>Con (rel T s) (sk p i) (sk p x)) (Con.refl _ _) fun x y r c=>?_
  obtain ⟨_,_,r | ⟨r1,r2⟩⟩:=(rel_out ok hp).mp r
  ·exact c.trans (.step r)
  ·exact (c.trans (.step r1)).trans (.step r2)
 ·intro h
  intro C ci cc
  have key:∀ x,(x=p∧(∃ i,i<T.length - 1∧rel T s p (sk p i)∧C i)∨∃ i,i<T.length - 1∧x=sk p i∧C i)→∀ y,rel T s x y→(y=p∧(∃ i,i<T.length - 1∧rel T s p (sk p i)∧C i)∨∃ i,i<T.length - 1∧y=sk p i∧C i):=by
   intro x hx y r
   by_cases hy:y=p
   ·subst hy
    rcases hx with ⟨_,w⟩ | ⟨i',hi',rfl,c⟩
    ·exact .inl ⟨rfl,w⟩
    ·exact .inl ⟨rfl,i',hi',rel_symm g r,c⟩
   ·obtain ⟨j',hj',e⟩:=sk_onto r.2.1 hy hp
    subst e
    refine .inr ⟨j',hj',rfl,?_⟩
    rcases hx with ⟨rfl,i',hi',r',c⟩ | ⟨i',hi',rfl,c⟩
    ·exact cc i' j' ((rel_out ok hp).mpr ⟨hi',hj',.inr ⟨rel_symm g r',r⟩⟩) c
    ·exact cc i' j' ((rel_out ok hp).mpr ⟨hi',hj',.inl r⟩) c
  rcases h (fun x=>(x=p∧(∃ i,i<T.length - 1∧rel T s p (sk p i)∧C i)∨∃ i,i<T.length - 1∧x=sk p i∧C i)) (.inr ⟨i,hi,rfl,ci⟩) (fun x y r hx=>key x hx y r) with ⟨e,_⟩ | ⟨j',_,e,c⟩
  ·exact absurd e (sk_lt hp hj).2
  ·rw [sk_inj e]; exact c
noncomputable def clT (sw:Int) (T:Tb):Tb:=(List.range T.length).map fun a=>(List.range T.length).map fun b=>(List.range (2 ^ sw.toNat)).map fun s=>if pB (Con (rel T s) a b)=true then 1 else 0
theorem clT_len (sw:Int) (T:Tb):(clT sw T).length=T.length:=by unfold clT; simp
theorem ent_cl {sw:Int}{T:Tb}{a b:Nat} (ha:a<T.length) (hb:b<T.length):ent (clT sw T) a b=(List.range (2 ^ sw.toNat)).map fun s=>if pB (Con (rel T s) a b)=true then 1 else 0:=by
 unfold ent clT
 simp [List.getD,List.getElem?_map,List.getElem?_range ha,List.getElem?_range hb]
theorem clT_ok {sw:Int}{T:Tb} (ok:okT sw T):okT sw (clT sw T):=by
 refine ⟨by rw [clT_len]; exact ok.1,by rw [clT_len]; exact ok.2.1,fun r hr=>?_⟩
 rw [clT_len]
 obtain ⟨a,_,rfl⟩:=List.mem_map.mp hr
 refine ⟨by simp,fun l hl=>?_⟩
 obtain ⟨b,_,rfl⟩:=List.mem_map.mp hl
 refine ⟨by simp,fun i hi=>?_⟩
 obtain ⟨s,_,rfl⟩:=List.mem_map.mp hi
 split <;> decide
theorem rel_cl {sw:Int}{T:Tb}{s a b:Nat}:rel (clT sw T) s a b↔s<2 ^ sw.toNat∧a<T.length∧b<T.length∧Con (rel T s) a b:=by
 constructor
 ·rintro ⟨ha,hb,h⟩
  rw [clT_len] at ha hb
  rw [ent_cl ha hb,List.getElem?_map] at h
  obtain ⟨s',h1,h2⟩:=Option.map_eq_some_iff.mp h
  obtain ⟨hs,rfl⟩:=List.getElem?_eq_some_iff.mp h1
  rw [List.getElem_range] at h2
  rw [List.length_range] at hs
  refine ⟨hs,ha,hb,?_⟩
  by_cases q:pB (Con (rel T s) a b)=true
  ·exact pB_iff.mp q
  ·rw [if_neg q] at h2; cases h2
 ·rintro ⟨hs,ha,hb,h⟩
  refine ⟨by rw [clT_len]; exact ha,by rw [clT_len]; exact hb,?_⟩
  rw [ent_cl ha hb,List.getElem?_map,List.getElem?_range hs]
  show some (if pB (Con (rel T s) a b)=true then (1:Int) else 0)=some 1
  rw [if_pos (pB_t h)]
theorem cl_gd {sw:Int}{T:Tb} (ok:okT sw T) (g:gdT T):gdT (clT sw T):=gd_of_rel (clT_ok ok) (fun s a hs ha=>rel_cl.mpr ⟨hs,by rw [clT_len] at ha; exact ha,by rw [clT_len] at ha; exact ha,Con.refl _ _⟩) fun s a b h=>by
 obtain ⟨h1,h2,h3,h4⟩:=rel_cl.mp h
 exact rel_cl.mpr ⟨h1,h3,h2,h4.symm fun x y=>rel_symm g⟩
theorem cl_uniq {sw:Int}{T M:Tb} (okT':okT sw T) (okM:okT sw M) (gM:gdT M) (hl:M.length=T.length) (h1:∀ s a b,rel T s a b→rel M s a b) (h2:∀ s a b,rel M s a b→Con (rel T s) a b) (h3:∀ s a b c,rel M s a b→rel M s b c→rel M s a c):M=clT sw T:=by
 refine tab_ext okM (clT_ok okT') (by rw [clT_len,hl]) fun s a b ha hb=>?_
 rw [rel_cl]
 constructor
 ·exact fun h=>⟨rel_lt okM h,by omega,by omega,h2 s a b h⟩
 ·rintro ⟨hs,ha',hb',h⟩
  exact h (fun x=>rel M s a x) (rel_refl okM gM hs ha) fun x y r c=>h3 s a x y c (h1 s x y r)
theorem cl_cl {sw:Int}{T:Tb} (ok:okT sw T) (g:gdT T):clT sw (clT sw T)=clT sw T:=(cl_uniq (clT_ok ok) (clT_ok ok) (cl_gd ok g) rfl (fun _ _ _ h=>h) (fun _ _ _ h=>.step h) fun s a b c h k=>by
 obtain ⟨q1,q2,q3,q4⟩:=rel_cl.mp h
 obtain ⟨r1,r2,r3,r4⟩:=rel_cl.mp k
 exact rel_cl.mpr ⟨q1,q2,r3,q4.trans r4⟩).symm
theorem rel_cl_trans {sw:Int}{T:Tb}{s a b c:Nat} (h:rel (clT sw T) s a b) (k:rel (clT sw T) s b c):rel (clT sw T) s a c:=by
 obtain ⟨q1,q2,q3,q4⟩:=rel_cl.mp h
 obtain ⟨r1,r2,r3,r4⟩:=rel_cl.mp k
 exact rel_cl.mpr ⟨q1,q2,r3,q4.trans r4⟩
theorem cl_out {sw:Int}{T:Tb} (ok:okT sw T) (g:gdT T) {p:Nat} (hp:p<T.length) (h3:3≤T.length):clT sw (outT T p)=outT (clT sw T) p:=by
 have hp':p<(clT sw T).length:=by rw [clT_len]; exact hp
 have h3':3≤(clT sw T).length:=by rw [clT_len]; exact h3
 refine tab_ext (clT_ok (outT_ok ok hp h3)) (outT_ok (clT_ok ok) hp' h3') (by rw [clT_len,outT_len hp,outT_len hp',clT_len]) fun s i j hi hj=>?_
 rw [clT_len,outT_len hp] at hi hj
 rw [rel_cl,rel_out (clT_ok ok) hp',outT_len hp,clT_len,con_out ok g hp hi hj]
 have qi:=(sk_lt hp hi).1
 have qj:=(sk_lt hp hj).1
 constructor
 ·rintro ⟨hs,_,_,h⟩
  exact ⟨hi,hj,.inl (rel_cl.mpr ⟨hs,qi,qj,h⟩)⟩
 ·rintro ⟨_,_,h⟩
  have:rel (clT sw T) s (sk p i) (sk p j):=by
   rcases h with h | ⟨h,k⟩
   ·exact h
   ·exact rel_cl_trans h k
  obtain ⟨hs,_,_,h⟩:=rel_cl.mp this
  exact ⟨hs,hi,hj,h⟩
theorem out_cl {sw:Int}{T:Tb} (ok:okT sw T) (g:gdT T) {p:Nat} (hp:p<T.length) (h3:3≤T.length) {i j:Nat} (hi:i<T.length - 1) (hj:j<T.length - 1):ent (outT (clT sw T) p) i j=ent (clT sw T) (sk p i) (sk p j):=by
 have hp':p<(clT sw T).length:=by rw [clT_len]; exact hp
 have h3':3≤(clT sw T).length:=by rw [clT_len]; exact h3
 have qi:sk p i<(clT sw T).length:=by rw [clT_len]; exact (sk_lt hp hi).1
 have qj:sk p j<(clT sw T).length:=by rw [clT_len]; exact (sk_lt hp hj).1
 have li:i<(outT (clT sw T) p).length:=by rw [outT_len hp',clT_len]; exact hi
 have lj:j<(outT (clT sw T) p).length:=by rw [outT_len hp',clT_len]; exact hj
 refine bits_ext (ent_at (outT_ok (clT_ok ok) hp' h3') li lj).2 (ent_at (clT_ok ok) qi qj).2 fun s=>?_
 constructor
 ·intro h
  obtain ⟨_,_,h⟩:=(rel_out (clT_ok ok) hp').mp ⟨li,lj,h⟩
  rcases h with h | ⟨h,k⟩
  ·exact h.2.2
  ·exact (rel_cl_trans h k).2.2
 ·intro h
  exact ((rel_out (clT_ok ok) hp').mpr ⟨by rw [clT_len]; exact hi,by rw [clT_len]; exact hj,.inl ⟨qi,qj,h⟩⟩).2.2
open PySem L2 Mt
variable {cl:Nat→CLL}
noncomputable def thr:List (List Int × List Int)→List Int→List Int
 | [],t=>t
 | q::r,t=>thr r (orL t (andL q.1 q.2))
theorem thr_ok {sw:Int}:∀ (l:List (List Int × List Int)) {t:List Int},(∀ q∈l,okF sw q.1∧okF sw q.2)→okF sw t→okF sw (thr l t)
 | [],t,_,h=>h
 | q::r,t,hl,h=>thr_ok r (fun z hz=>hl z (by simp [hz])) (orL_ok' h (andL_ok (hl q (by simp)).1 (hl q (by simp)).2))
theorem thr_bit {sw:Int}:∀ (l:List (List Int × List Int)) {t:List Int}{s:Nat},(∀ q∈l,okF sw q.1∧okF sw q.2)→okF sw t→((thr l t)[s]?=some 1↔t[s]?=some 1∨∃ q∈l,q.1[s]?=some 1∧q.2[s]?=some 1)
 | [],t,s,_,h=>⟨.inl,fun z=>z.elim id fun ⟨q,hq,_⟩=>by cases hq⟩
 | q::r,t,s,hl,h=>by
  have hq:=hl q (by simp)
  show (thr r (orL t (andL q.1 q.2)))[s]?=some 1↔_
  rw [thr_bit r (fun z hz=>hl z (by simp [hz])) (orL_ok' h (andL_ok hq.1 hq.2)),or_bit h (andL_ok hq.1 hq.2),and_bit hq.1 hq.2]
  constructor
  ·rintro ((z | z) | ⟨q',h1,h2⟩)
   ·exact .inl z
   ·exact .inr ⟨q,by simp,z⟩
   ·exact .inr ⟨q',by simp [h1],h2⟩
  ·rintro (z | ⟨q',h1,h2⟩)
   ·exact .inl (.inl z)
   ·rcases List.mem_cons.mp h1 with rfl | h1
    ·exact .inl (.inr h2)
    ·exact .inr ⟨q',h1,h2⟩
noncomputable def zer (sw:Int):List Int:=List.replicate (2 ^ sw.toNat) 0
theorem zer_ok (sw:Int):okF sw (zer sw):=⟨by simp [zer],fun i hi=>by rw [List.eq_of_mem_replicate hi]; decide⟩
noncomputable def comE (sw:Int) (T U:Tb) (a b:Nat):List Int:=thr ((T.getD a []).zip (U.getD b [])) (zer sw)
noncomputable def comT (sw:Int) (T U:Tb):Tb:=(List.range T.length).map fun a=>(List.range U.length).map fun b=>comE sw T U a b
theorem zip_okF {sw:Int}{T U:Tb} (hT:okT sw T) (hU:okT sw U) {a b:Nat} (ha:a<T.length) (hb:b<U.length):∀ q∈(T.getD a []).zip (U.getD b []),okF sw q.1∧okF sw q.2:=fun q hq=>by
 have:=List.of_mem_zip (a:=q.1) (b:=q.2) hq
 exact ⟨(row_at hT ha).2.2 _ this.1,(row_at hU hb).2.2 _ this.2⟩
theorem comE_ok {sw:Int}{T U:Tb} (hT:okT sw T) (hU:okT sw U) {a b:Nat} (ha:a<T.length) (hb:b<U.length):okF sw (comE sw T U a b):=thr_ok _ (zip_okF hT hU ha hb) (zer_ok sw)
theorem comT_len (sw:Int) (T U:Tb):(comT sw T U).length=T.length:=by unfold comT; simp
theorem comT_ok {sw:Int}{T U:Tb} (hT:okT sw T) (hU:okT sw U) (hl:T.length=U.length):okT sw (comT sw T U):=by
 refine ⟨by rw [comT_len]; exact hT.1,by rw [comT_len]; exact hT.2.1,fun r hr=>?_⟩
 rw [comT_len]
 obtain ⟨a,ha,rfl⟩:=List.mem_map.mp hr
 refine ⟨by simp [hl],fun l hl'=>?_⟩
 obtain ⟨b,hb,rfl⟩:=List.mem_map.mp hl'
 exact comE_ok hT hU (List.mem_range.mp ha) (List.mem_range.mp hb)
theorem ent_com {sw:Int}{T U:Tb}{a b:Nat} (ha:a<T.length) (hb:b<U.length):ent (comT sw T U) a b=comE sw T U a b:=by
 unfold ent comT
 simp [List.getD,List.getElem?_map,List.getElem?_range ha,List.getElem?_range hb]
theorem rel_com {sw:Int}{T U:Tb} (hT:okT sw T) (hU:okT sw U) (hl:T.length=U.length) {s a b:Nat}:rel (comT sw T U) s a b↔∃ c,rel T s a c∧rel U s b c:=by
 constructor
 ·rintro ⟨ha,hb,h⟩
  rw [comT_len] at ha hb
  have hb':b<U.length:=by omega
  rw [ent_com ha hb'] at h
  unfold comE at h
  rw [thr_bit _ (zip_okF hT hU ha hb') (zer_ok sw)] at h
  rcases h with h | ⟨q,hq,h1,h2⟩
  ·unfold zer at h
   rw [List.getElem?_replicate] at h
   split at h <;> cases h
  ·obtain ⟨c,hc,e⟩:=List.mem_iff_getElem.mp hq
   have hg:=List.getElem?_eq_getElem hc
   rw [e] at hg
   have hz:=(List.getElem?_zip_eq_some (z:=q)).mp hg
   have hcl:c<T.length:=by rw [← (row_at hT ha).2.1]; exact (List.getElem?_eq_some_iff.mp hz.1).1
   have e1:=(ent_at hT ha hcl).1
   have e2:=(ent_at hU hb' (show c<U.length by omega)).1
   rw [hz.1] at e1
   rw [hz.2] at e2
   refine ⟨c,⟨ha,hcl,?_⟩,hb',by omega,?_⟩
   ·rw [← Option.some.inj e1]; exact h1
   ·rw [← Option.some.inj e2]; exact h2
 ·rintro ⟨c,⟨ha,hc,h1⟩,hb,hc',h2⟩
  refine ⟨by rw [comT_len]; exact ha,by rw [comT_len]; omega,?_⟩
  rw [ent_com ha hb]
  unfold comE
  rw [thr_bit _ (zip_okF hT hU ha hb) (zer_ok sw)]
  refine .inr ⟨(ent T a c,ent U b c),?_,h1,h2⟩
  exact List.mem_of_getElem? ((List.getElem?_zip_eq_some (z:=(ent T a c,ent U b c))).mpr ⟨(ent_at hT ha hc).1,(ent_at hU hb hc').1⟩)
theorem com_gd {sw:Int}{T:Tb} (ok:okT sw T) (g:gdT T):gdT (comT sw T T):=gd_of_rel (comT_ok ok ok rfl) (fun s a hs ha=>by
 rw [comT_len] at ha
 exact (rel_com ok ok rfl).mpr ⟨a,rel_refl ok g hs ha,rel_refl ok g hs ha⟩) fun s a b h=>by
 obtain ⟨c,h1,h2⟩:=(rel_com ok ok rfl).mp h
 exact (rel_com ok ok rfl).mpr ⟨c,h2,h1⟩
theorem com_cl {sw:Int}{T:Tb} (ok:okT sw T) (g:gdT T):comT sw (clT sw T) T=clT sw T:=by
 have hl:(clT sw T).length=T.length:=clT_len sw T
 refine tab_ext (comT_ok (clT_ok ok) ok hl) (clT_ok ok) (by rw [comT_len]) fun s a b ha hb=>?_
 rw [rel_com (clT_ok ok) ok hl]
 rw [comT_len,hl] at ha hb
 constructor
 ·rintro ⟨c,h1,h2⟩
  obtain ⟨q1,q2,q3,q4⟩:=rel_cl.mp h1
  exact rel_cl.mpr ⟨q1,q2,hb,q4.trans (.step (rel_symm g h2))⟩
 ·intro h
  exact ⟨b,h,rel_refl ok g (rel_cl.mp h).1 hb⟩
noncomputable def onesL (q n:Nat):List (Nat × Nat × Nat):=(List.range q).flatMap fun s=>(List.range n).flatMap fun a=>(List.range n).map fun b=>(s,a,b)
theorem mem_ones {q n s a b:Nat}:(s,a,b)∈onesL q n↔s<q∧a<n∧b<n:=by
 unfold onesL
 simp only [List.mem_flatMap,List.mem_range,List.mem_map,Prod.mk.injEq]
 constructor
 ·rintro ⟨s',h1,a',h2,b',h3,rfl,rfl,rfl⟩; exact ⟨h1,h2,h3⟩
 ·rintro ⟨h1,h2,h3⟩; exact ⟨s,h1,a,h2,b,h3,rfl,rfl,rfl⟩
noncomputable def cntT (sw:Int) (T:Tb):Nat:=((onesL (2 ^ sw.toNat) T.length).filter fun t=>pB (rel T t.1 t.2.1 t.2.2)).length
theorem cnt_lt {sw:Int}{T:Tb} (ok:okT sw T) (g:gdT T) (h:comT sw T T≠T):cntT sw T<cntT sw (comT sw T T):=by
 have sub:∀ s a b,rel T s a b→rel (comT sw T T) s a b:=fun s a b r=>(rel_com ok ok rfl).mpr ⟨b,r,rel_refl ok g (rel_lt ok r) r.2.1⟩
 have ex:∃ s a b,rel (comT sw T T) s a b∧¬ rel T s a b:=by
  refine Classical.byContradiction fun z=>h ?_
  refine tab_ext (comT_ok ok ok rfl) ok (comT_len _ _ _) fun s a b _ _=>⟨fun r=>?_,sub s a b⟩
  exact Classical.byContradiction fun q=>z ⟨s,a,b,r,q⟩
 obtain ⟨s,a,b,r,nr⟩:=ex
 unfold cntT
 rw [comT_len]
 have hr:=r
 have q1:=rel_lt (comT_ok ok ok rfl) r
 have q2:=r.1
 have q3:=r.2.1
 rw [comT_len] at q2 q3
 exact filter_lt (a:=(s,a,b)) (fun t ht=>pB_t (sub _ _ _ (pB_iff.mp ht))) (mem_ones.mpr ⟨q1,q2,q3⟩) (pB_t hr) (pB_f nr)
theorem ones_len (q n:Nat):(onesL q n).length=q*(n*n):=by
 unfold onesL
 simp [List.length_flatMap,List.map_const',Nat.mul_comm]
theorem cnt_le {sw:Int} (h4:sw≤4) {T:Tb} (ok:okT sw T):cntT sw T≤784:=by
 unfold cntT
 refine Nat.le_trans (List.length_filter_le ..) ?_
 rw [ones_len]
 have h1:2 ^ sw.toNat≤16:=Nat.le_trans (Nat.pow_le_pow_right (by decide) (show sw.toNat≤4 by omega)) (by decide)
 exact Nat.le_trans (Nat.mul_le_mul h1 (Nat.mul_le_mul ok.2.1 ok.2.1)) (by decide)
open PySem L2 Mt
variable {cl:Nat→CLL}
structure HCo (cl:Nat→CLL):Prop where
 th:Hs_through_some_place cl
 rt:Hs_row_through cl
 co:Hs_come_to cl
 cd:Hs_closed cl
 wb:Hs_where_both cl
 we:Hs_where_either cl
 sb:Hs_same_both_ways cl
theorem tp_l (c:CLL) {rd od:D}{t x y b t':D}{S S1 S2:Store} (e1:c "where_both" [x,y] S=.ok b S1) (e2:c "where_either" [t,b] S1=.ok t' S2):through_some_place_l1 c [some rd,some od,some t,some x,some y] S=.nx [some rd,some od,some t',some x,some y] S2:=by
 simp [through_some_place_l1,e1,e2]
theorem tp_run (c:CLL) {X Y:List D}{l0 t t':D}{z:Int}{v3 v4:Option D}{S S1:Store} (i0:atI X 0=some l0) (fl:fLen [l0] S=.ok (.int z) S) (m:oMul (.tup [.int 0]) (.int z) S=.ok t S) (e:loopS [] (gT [gN 3,gN 4]) (through_some_place_l1 c) (zipD X Y) [some (.tup X),some (.tup Y),some t,none,none] S=.nx [some (.tup X),some (.tup Y),some t',v3,v4] S1) :
  b_through_some_place c [some (.tup X),some (.tup Y),none,none,none] S=.rt t' S1:=by
 simp [b_through_some_place,i0,fl,m,e]
inductive TpI (rd od:D) (S0:Store) (l:List (List Int × List Int)) (t0:List Int) (j:Nat) (ρ:Env1) (S:Store):Prop
 | mk (v3 v4:Option D) (e:ρ=[some rd,some od,some (bitsD (thr (l.take j) t0)),v3,v4]) (x:Ex S0 S)
theorem thr_app (l:List (List Int × List Int)) (q:List Int × List Int):∀ t,thr (l++[q]) t=orL (thr l t) (andL q.1 q.2):=by
 induction l with
 | nil=>exact fun t=>rfl
 | cons a r ih=>exact fun t=>ih _
theorem through_spec (H:HCo cl) (n:Nat) {sw:Int} (h1:1≤sw) (h4:sw≤4) {R Q:List (List Int)}{p:Nat} (hR:okR sw p R) (hQ:okR sw p Q) (p1:1≤p) (S:Store):Spc (cl (n+2) "through_some_place" [rowD R,rowD Q] S) (bitsD (thr (R.zip Q) (zer sw))) S:=by
 have okZ:∀ q∈R.zip Q,okF sw q.1∧okF sw q.2:=fun q hq=>by
  have:=List.of_mem_zip (a:=q.1) (b:=q.2) hq
  exact ⟨hR.2 _ this.1,hQ.2 _ this.2⟩
 have z:zipD (R.map bitsD) (Q.map bitsD)=(R.zip Q).map fun q=>.tup [bitsD q.1,bitsD q.2]:=by
  unfold zipD; rw [List.zip_map,List.map_map]; rfl
 obtain ⟨ρ',S1,e1,v3,v4,hρ,x1⟩:=loop_inv (w:=[]) (g:=gT [gN 3,gN 4]) (b:=through_some_place_l1 (cl (n+1))) (items:=(R.zip Q).map fun q=>D.tup [bitsD q.1,bitsD q.2]) (TpI (rowD R) (rowD Q) S (R.zip Q) (zer sw)) (ρ:=[some (rowD R),some (rowD Q),some (bitsD (zer sw)),none,none]) (S:=S)
  (fun _ _ _ _=>okW_nil _) ⟨none,none,rfl,Kp.refl _ _⟩
  (fun j d ρ S' hd hp=>by
   obtain ⟨v3,v4,rfl,x⟩:=hp
   rw [List.getElem?_map] at hd
   obtain ⟨q,hq,rfl⟩:=Option.map_eq_some_iff.mp hd
   have hm:=okZ q (List.mem_of_getElem? hq)
   have ht:=thr_ok ((R.zip Q).take j) (fun z hz=>okZ z (List.mem_of_mem_take hz)) (zer_ok sw)
   obtain ⟨S2,w1,x2⟩:=where_both_spec H.wb n (okF_len h4 hm.1) hm.1.2 hm.2.2 S'
   obtain ⟨S3,w2,x3⟩:=where_either_spec H.we n (okF_len h4 ht) ht.2 (andL_ok hm.1 hm.2).2 S2
   refine ⟨_,_,rfl,_,S3,.inl (tp_l _ w1 w2),⟨some (bitsD q.1),some (bitsD q.2),?_,(x.trans x2).trans x3⟩⟩
   rw [List.take_add_one,hq]
   show _=[some (rowD R),some (rowD Q),some (bitsD (thr ((R.zip Q).take j++[q]) (zer sw))),_,_]
   rw [thr_app])
 subst hρ
 rw [List.length_map,List.take_length,← z] at e1
 have hl0:0<R.length:=by rw [hR.1]; exact p1
 have i0:atI (R.map bitsD) ((0:Nat):Int)=some (bitsD R[0]):=atI_nat (by rw [List.getElem?_map,List.getElem?_eq_getElem hl0]; rfl)
 have fl:fLen [bitsD R[0]] S=.ok (.int ((2 ^ sw.toNat:Nat):Int)) S:=by
  show fLen [.tup (R[0].map D.int)] S=_
  rw [fLen_tup,List.length_map,(hR.2 _ (List.getElem_mem hl0)).1]
 refine ⟨S1,?_,x1⟩
 rw [show n+2=(n+1)+1 from rfl,H.th]
 exact run_rt rfl (tp_run _ i0 fl (ones_mul h1 h4 rfl 0 S) e1)
theorem rt_e (c:CLL) {r q d:D}{S S1:Store} (e:c "through_some_place" [r,q] S=.ok d S1):row_through_e1 c [some q,some r] S=.ok d S1:=by
 simp [row_through_e1,e]
theorem rt_run (c:CLL) {rd:D}{X R:List D}{S S1 S2:Store} (hl:X.length<lim) (e1:loopC [] .one (fun _=>ret true) (row_through_e1 c) [none,some rd] X S=.ok R S1) (h2:S1++[.lst R]=S2) (t:fTuple [.lst S1.length] S2=.ok (.tup R) S2):b_row_through c [some rd,some (.tup X)] S=.rt (.tup R) S2:=by
 simp [b_row_through,hl,e1,h2,t]
theorem rows_eq {sw:Int}{U:Tb} (ok:okT sw U):U=(List.range U.length).map fun b=>U.getD b []:=by
 refine List.ext_getElem (by simp) fun b h1 h2=>?_
 have:=(row_at ok h1).1
 rw [List.getElem?_eq_getElem h1] at this
 simp [Option.some.inj this]
theorem row_through_spec (H:HCo cl) (n:Nat) {sw:Int} (h1:1≤sw) (h4:sw≤4) {T U:Tb} (hT:okT sw T) (hU:okT sw U) (hl:T.length=U.length) {a:Nat} (ha:a<T.length) (S:Store):Spc (cl (n+3) "row_through" [rowD (T.getD a []),tD U] S) (rowD ((List.range U.length).map fun b=>comE sw T U a b)) S:=by
 have h7:=hU.2.1
 obtain ⟨S1,e1,x1⟩:=comp_mapM (fun (b:Nat)=>rowD (U.getD b [])) (w:=[]) (t:=.one) (c:=row_through_e1 (cl (n+2))) (ρ0:=[none,some (rowD (T.getD a []))]) (fun S'=>Ex S S') (fun S' _=>okW_nil _) (fun b=>bitsD (comE sw T U a b)) (List.range U.length) (Kp.refl _ _)
  (fun b hb S' x=>by
   have hb':=List.mem_range.mp hb
   have ru:=(row_at hU hb').2
   rw [← hl] at ru
   obtain ⟨S2,e2,x2⟩:=through_spec H n h1 h4 (row_at hT ha).2 ru (by have:=hT.1; omega) S'
   exact ⟨_,rfl,S2,rt_e _ e2,x.trans x2⟩)
 have hU':U.map rowD=(List.range U.length).map fun b=>rowD (U.getD b []):=by
  conv=>lhs; rw [rows_eq hU]
  rw [List.map_map]; rfl
 rw [← hU'] at e1
 obtain ⟨S2,h2⟩:∃ S2,S1++[O.lst ((List.range U.length).map fun b=>bitsD (comE sw T U a b))]=S2:=⟨_,rfl⟩
 refine ⟨S2,?_,x1.trans (by rw [← h2]; exact ex_app _ _)⟩
 have hd:rowD ((List.range U.length).map fun b=>comE sw T U a b)=.tup ((List.range U.length).map fun b=>bitsD (comE sw T U a b)):=by unfold rowD; rw [List.map_map]; rfl
 rw [show n+3=(n+2)+1 from rfl,H.rt,hd]
 exact run_rt rfl (rt_run _ (by rw [List.length_map,lim_eq]; omega) e1 h2 (by rw [← h2]; exact fTuple_lst (lstAt_new _ _)))
theorem ct_e (c:CLL) {r q d:D}{S S1:Store} (e:c "row_through" [r,q] S=.ok d S1):come_to_e1 c [some r,some q] S=.ok d S1:=by
 simp [come_to_e1,e]
theorem ct_run (c:CLL) {ud:D}{X R:List D}{S S1 S2 S3:Store} (hl:X.length<lim) (e1:loopC [] .one (fun _=>ret true) (come_to_e1 c) [none,some ud] X S=.ok R S1) (h2:S1++[.lst R]=S2) (t:fTuple [.lst S1.length] S2=.ok (.tup R) S2) (e3:c "same_both_ways" [.tup R] S2=.ok (.bl true) S3):b_come_to c [some (.tup X),some ud,none] S=.rt (.tup R) S3:=by
 simp [b_come_to,hl,e1,h2,t,e3]
theorem come_to_spec (H:HCo cl) (n:Nat) {sw:Int} (h1:1≤sw) (h4:sw≤4) {T U:Tb} (hT:okT sw T) (hU:okT sw U) (hl:T.length=U.length) (g:gdT (comT sw T U)) (S:Store):Spc (cl (n+4) "come_to" [tD T,tD U] S) (tD (comT sw T U)) S:=by
 have h7:=hT.2.1
 obtain ⟨S1,e1,x1⟩:=comp_mapM (fun (a:Nat)=>rowD (T.getD a [])) (w:=[]) (t:=.one) (c:=come_to_e1 (cl (n+3))) (ρ0:=[none,some (tD U)]) (fun S'=>Ex S S') (fun S' _=>okW_nil _) (fun a=>rowD ((List.range U.length).map fun b=>comE sw T U a b)) (List.range T.length) (Kp.refl _ _)
  (fun a ha S' x=>by
   obtain ⟨S2,e2,x2⟩:=row_through_spec H n h1 h4 hT hU hl (List.mem_range.mp ha) S'
   exact ⟨_,rfl,S2,ct_e _ e2,x.trans x2⟩)
 have hT':T.map rowD=(List.range T.length).map fun a=>rowD (T.getD a []):=by
  conv=>lhs; rw [rows_eq hT]
  rw [List.map_map]; rfl
 rw [← hT'] at e1
 obtain ⟨S2,h2⟩:∃ S2,S1++[O.lst ((List.range T.length).map fun a=>rowD ((List.range U.length).map fun b=>comE sw T U a b))]=S2:=⟨_,rfl⟩
 have hd:tD (comT sw T U)=.tup ((List.range T.length).map fun a=>rowD ((List.range U.length).map fun b=>comE sw T U a b)):=by unfold tD comT; rw [List.map_map]; rfl
 have e3:=same_both_spec H.sb (n+2) (comT_ok hT hU hl) S2
 rw [pB_t g.2,hd] at e3
 refine ⟨S2,?_,x1.trans (by rw [← h2]; exact ex_app _ _)⟩
 rw [show n+4=(n+3)+1 from rfl,H.co,hd]
 exact run_rt rfl (ct_run _ (by rw [List.length_map,lim_eq]; omega) e1 h2 (by rw [← h2]; exact fTuple_lst (lstAt_new _ _)) e3)
theorem cd_t (c:CLL) {td a b:D}{k:Bool}{S:Store} (q:oNe b a S=.ok (.bl k) S):(cBool (cBin oNe (cVar 2) (cVar 1))) [some td,some a,some b] S=.ok k S:=by
 simp [q]
theorem cd_l (c:CLL) {td a b d:D}{S S1:Store} (e:c "come_to" [b,b] S=.ok d S1):closed_l1 c [some td,some a,some b] S=.nx [some td,some b,some d] S1:=by
 simp [closed_l1,e]
theorem cd_run (c:CLL) {td d r f:D}{S S1 S2:Store} (e1:c "come_to" [td,td] S=.ok d S1) (e2:whileS wfuel (cBool (cBin oNe (cVar 2) (cVar 1))) (closed_l1 c) [some td,some td,some d] S1=.nx [some td,some r,some f] S2):b_closed c [some td,none,none] S=.rt r S2:=by
 simp [b_closed,e1,e2]
inductive CdI (sw:Int) (T:Tb) (S0:Store) (m:Nat) (ρ:Env1) (S:Store):Prop
 | mk (M:Tb) (e:ρ=[some (tD T),some (tD M),some (tD (comT sw M M))]) (ok:okT sw M) (g:gdT M) (hl:M.length=T.length) (h1:∀ s a b,rel T s a b→rel M s a b) (h2:∀ s a b,rel M s a b→Con (rel T s) a b) (hm:m+cntT sw M=784) (x:Ex S0 S)
inductive CdQ (sw:Int) (T:Tb) (S0:Store) (ρ:Env1) (S:Store):Prop
 | mk (f:D) (e:ρ=[some (tD T),some (tD (clT sw T)),some f]) (x:Ex S0 S)
theorem closed_spec (H:HCo cl) (n:Nat) {sw:Int} (h1:1≤sw) (h4:sw≤4) {T:Tb} (ok:okT sw T) (g:gdT T) (S:Store):Spc (cl (n+5) "closed" [tD T] S) (tD (clT sw T)) S:=by
 obtain ⟨S1,e1,x1⟩:=come_to_spec H n h1 h4 ok ok rfl (com_gd ok g) S
 obtain ⟨ρ',S2,e2,f,hρ,x2⟩:=while_go (t:=cBool (cBin oNe (cVar 2) (cVar 1))) (b:=closed_l1 (cl (n+4))) (CdI sw T S1) (CdQ sw T S1)
  (fun m ρ S' hp=>by
   obtain ⟨M,rfl,okM,gM,hl,q1,q2,hm,x⟩:=hp
   have okC:=comT_ok okM okM rfl
   have t:=cd_t (cl (n+4)) (td:=tD T) (ne_tab (comT sw M M) M S')
   cases hE:pB (comT sw M M=M) with
   | true =>
    rw [hE] at t
    have e:=pB_iff.mp hE
    refine .inl ⟨S',t,tD (comT sw M M),?_,x⟩
    rw [← cl_uniq ok okM gM hl q1 q2 fun s a b c r r'=>by
     rw [← e]
     exact (rel_com okM okM rfl).mpr ⟨b,r,rel_symm gM r'⟩]
   | false =>
    rw [hE] at t
    have hne:comT sw M M≠M:=fun z=>by rw [pB_t z] at hE; cases hE
    have lt:=cnt_lt okM gM hne
    have le:=cnt_le h4 okC
    obtain ⟨S3,e3,x3⟩:=come_to_spec H n h1 h4 okC okC rfl (com_gd okC (com_gd okM gM)) S'
    refine .inr ⟨S',t,_,S3,.inl (cd_l _ e3),784 - cntT sw (comT sw M M),by omega,⟨comT sw M M,rfl,okC,com_gd okM gM,by rw [comT_len]; exact hl,fun s a b r=>?_,fun s a b r=>?_,by omega,x.trans x3⟩⟩
    ·have r':=q1 s a b r
     exact (rel_com okM okM rfl).mpr ⟨b,r',rel_refl okM gM (rel_lt okM r') r'.2.1⟩
    ·obtain ⟨c,r1,r2⟩:=(rel_com okM okM rfl).mp r
     exact (q2 s a c r1).trans ((q2 s b c r2).symm fun x y=>rel_symm g))
  wfuel (784 - cntT sw T) [some (tD T),some (tD T),some (tD (comT sw T T))] S1 (Nat.lt_of_le_of_lt (Nat.sub_le _ _) (by decide))
  ⟨T,rfl,ok,g,rfl,fun _ _ _ r=>r,fun _ _ _ r=>.step r,by have:=cnt_le h4 ok; omega,Kp.refl _ _⟩
 subst hρ
 refine ⟨S2,?_,x1.trans x2⟩
 rw [show n+5=(n+4)+1 from rfl,H.cd]
 exact run_rt rfl (cd_run _ e1 e2)
open PySem L2 Mt
variable {cl:Nat→CLL}
theorem map_bit {α:Type}{l:List α}{f:α→Bool}{s:Nat}:(l.map fun st=>if f st=true then (1:Int) else 0)[s]?=some 1↔∃ st,l[s]?=some st∧f st=true:=by
 rw [List.getElem?_map]
 constructor
 ·intro h
  obtain ⟨st,h1,h2⟩:=Option.map_eq_some_iff.mp h
  refine ⟨st,h1,?_⟩
  cases q:f st with
  | true=>rfl
  | false=>rw [q] at h2; cases h2
 ·rintro ⟨st,h1,h2⟩
  rw [h1]; simp [h2]
theorem rel_tie {N:Net}{s a b:Nat}:rel (tieT N) s a b↔a<N.pl.toNat∧b<N.pl.toNat∧∃ st,(sett N.sw.toNat)[s]?=some st∧tieB N a b st=true:=by
 constructor
 ·rintro ⟨ha,hb,h⟩
  rw [tieT_len] at ha hb
  rw [tieT_ent N ha hb] at h
  exact ⟨ha,hb,map_bit.mp h⟩
 ·rintro ⟨ha,hb,h⟩
  refine ⟨by rw [tieT_len]; exact ha,by rw [tieT_len]; exact hb,?_⟩
  rw [tieT_ent N ha hb]
  exact map_bit.mpr h
theorem sett_get {k s:Nat} (h:s<2 ^ k):∃ st,(sett k)[s]?=some st:=⟨_,List.getElem?_eq_getElem (by rw [sett_len]; exact h)⟩
theorem tie_gd {N:Net} (ok:N.g):gdT (tieT N):=gd_of_rel (tieT_okT ok) (fun s a hs ha=>by
 rw [tieT_len] at ha
 obtain ⟨st,h⟩:=sett_get hs
 exact rel_tie.mpr ⟨ha,ha,st,h,pB_t (.inl rfl)⟩) fun s a b h=>by
 obtain ⟨ha,hb,st,h1,h2⟩:=rel_tie.mp h
 refine rel_tie.mpr ⟨hb,ha,st,h1,pB_t ?_⟩
 rcases pB_iff.mp h2 with e | ⟨c,hc,ht,hs⟩
 ·exact .inl e.symm
 ·exact .inr ⟨c,hc,ht.symm,hs⟩
theorem fun_bit {N:Net} (ok:N.g) {s:Nat}:(funP N)[s]?=some 1↔s<2 ^ N.sw.toNat∧Con (rel (tieT N) s) 0 1:=by
 have p1:=ok.p1
 unfold funP
 rw [map_bit]
 constructor
 ·rintro ⟨st,h1,h2⟩
  refine ⟨by rw [← sett_len]; exact (List.getElem?_eq_some_iff.mp h1).1,fun C c0 cc=>?_⟩
  have hg:=tie_gd ok
  have:=(lets_iff.mp h2) (fun x=>C x.toNat) c0 (fun c hc hs=>by
   obtain ⟨a0,ab,bp,_⟩:=ok.c2 c hc
   have r:rel (tieT N) s c.a.toNat c.b.toNat:=rel_tie.mpr ⟨by omega,by omega,st,h1,pB_t (.inr ⟨c,hc,.inl ⟨by omega,by omega⟩,hs⟩)⟩
   exact ⟨cc _ _ r,cc _ _ (rel_symm hg r)⟩)
  exact this
 ·rintro ⟨hs,h⟩
  obtain ⟨st,h1⟩:=sett_get hs
  refine ⟨st,h1,lets_iff.mpr fun C c0 cc=>?_⟩
  exact h (fun x=>C (x:Int)) c0 fun x y r c=>by
   obtain ⟨_,_,st',q1,q2⟩:=rel_tie.mp r
   rw [h1] at q1; cases q1
   rcases pB_iff.mp q2 with e | ⟨d,hd,ht,hsd⟩
   ·have:(y:Int)=(x:Int):=e.symm
    rw [this]; exact c
   ·have:=cc d hd hsd
    rcases ht with ⟨e1,e2⟩ | ⟨e1,e2⟩
    ·rw [← e2]; rw [← e1] at c; exact this.mp c
    ·rw [← e1]; rw [← e2] at c; exact this.mpr c
theorem fun_cl {N:Net} (ok:N.g):ent (clT N.sw (tieT N)) 0 1=funP N:=by
 have p1:=ok.p1
 have h0:0<(tieT N).length:=by rw [tieT_len]; omega
 have h1:1<(tieT N).length:=by rw [tieT_len]; omega
 have okf:okF N.sw (funP N):=by
  refine ⟨by unfold funP; rw [List.length_map,sett_len],fun i hi=>?_⟩
  unfold funP at hi
  obtain ⟨st,_,rfl⟩:=List.mem_map.mp hi
  split <;> decide
 refine bits_ext (ent_at (clT_ok (tieT_okT ok)) (by rw [clT_len]; exact h0) (by rw [clT_len]; exact h1)).2 okf fun s=>?_
 rw [fun_bit ok]
 constructor
 ·intro h
  obtain ⟨q1,_,_,q4⟩:=rel_cl.mp (show rel (clT N.sw (tieT N)) s 0 1 from ⟨by rw [clT_len]; exact h0,by rw [clT_len]; exact h1,h⟩)
  exact ⟨q1,q4⟩
 ·rintro ⟨q1,q4⟩
  exact (rel_cl.mpr ⟨q1,h0,h1,q4⟩).2.2
theorem two_cl {sw:Int}{L:Tb} (ok:okT sw L) (g:gdT L) (hl:L.length=2):ent L 0 1=ent (clT sw L) 0 1:=by
 have h0:0<L.length:=by omega
 have h1:1<L.length:=by omega
 refine bits_ext (ent_at ok h0 h1).2 (ent_at (clT_ok ok) (by rw [clT_len]; exact h0) (by rw [clT_len]; exact h1)).2 fun s=>?_
 constructor
 ·intro h
  have r:rel L s 0 1:=⟨h0,h1,h⟩
  exact (rel_cl.mpr ⟨rel_lt ok r,h0,h1,.step r⟩).2.2
 ·intro h
  obtain ⟨hs,_,_,c⟩:=rel_cl.mp (show rel (clT sw L) s 0 1 from ⟨by rw [clT_len]; exact h0,by rw [clT_len]; exact h1,h⟩)
  have:=c (fun x=>rel L s 0 x) (rel_refl ok g hs h0) fun x y r c=>by
   have hx:x=0∨x=1:=by have:=r.1; omega
   have hy:y=0∨y=1:=by have:=r.2.1; omega
   rcases hx with rfl | rfl
   ·exact r
   ·rcases hy with rfl | rfl
    ·exact rel_refl ok g hs h0
    ·exact c
  exact this.2.2
theorem cl_out01 {sw:Int}{T:Tb} (ok:okT sw T) (g:gdT T) {p:Nat} (p2:2≤p) (hp:p<T.length):ent (clT sw (outT T p)) 0 1=ent (clT sw T) 0 1:=by
 have h3:3≤T.length:=by omega
 rw [cl_out ok g hp h3,out_cl ok g hp h3 (by omega) (by omega)]
 have e0:sk p 0=0:=by unfold sk; rw [if_pos (by omega)]
 have e1:sk p 1=1:=by unfold sk; rw [if_pos (by omega)]
 rw [e0,e1]
theorem la_t (c:CLL) {td Ld:D}{z:Int}{S:Store} (fl:∀ S,fLen [Ld] S=.ok (.int z) S):(cBool (cBin (oCmp fun i j=>decide (j<i)) (cApp fLen (cArgs [(cVar 1)])) (cCon (.int 2)))) [some td,some Ld] S=.ok (decide (2<z)) S:=by
 simp [fl]
theorem la_l (c:CLL) {td Ld d:D}{S S1:Store} (e:c "taken_out" [Ld,.int 2] S=.ok d S1):left_at_last_l1 c [some td,some Ld] S=.nx [some td,some d] S1:=by
 simp [left_at_last_l1,e]
theorem la_run (c:CLL) {td r0 l1:D}{X:List D}{S S2:Store} (e2:whileS wfuel (cBool (cBin (oCmp fun i j=>decide (j<i)) (cApp fLen (cArgs [(cVar 1)])) (cCon (.int 2)))) (left_at_last_l1 c) [some td,some td] S=.nx [some td,some (.tup X)] S2) (i0:oIx (.tup X) (.int 0) S2=.ok r0 S2) (i1:oIx r0 (.int 1) S2=.ok l1 S2):b_left_at_last c [some td,none] S=.rt l1 S2:=by
 simp only [oIx_tup] at i0
 simp [b_left_at_last,e2,i0,i1]
inductive LaI (sw:Int) (T:Tb) (S0:Store) (m:Nat) (ρ:Env1) (S:Store):Prop
 | mk (L:Tb) (e:ρ=[some (tD T),some (tD L)]) (ok:okT sw L) (g:gdT L) (hm:L.length=2+m) (h:ent (clT sw L) 0 1=ent (clT sw T) 0 1) (x:Ex S0 S)
inductive LaQ (sw:Int) (T:Tb) (S0:Store) (ρ:Env1) (S:Store):Prop
 | mk (L:Tb) (e:ρ=[some (tD T),some (tD L)]) (ok:okT sw L) (g:gdT L) (hm:L.length=2) (h:ent (clT sw L) 0 1=ent (clT sw T) 0 1) (x:Ex S0 S)
theorem left_spec (h:Hs_left_at_last cl) (H:HO2 cl) (n:Nat) {sw:Int} (h4:sw≤4) {T:Tb} (ok:okT sw T) (g:gdT T) (S:Store):Spc (cl (n+4) "left_at_last" [tD T] S) (bitsD (ent (clT sw T) 0 1)) S:=by
 have h2:=ok.1
 have h7:=ok.2.1
 obtain ⟨ρ',S2,e2,L,hρ,okL,gL,hm,hL,x2⟩:=while_go (t:=cBool (cBin (oCmp fun i j=>decide (j<i)) (cApp fLen (cArgs [(cVar 1)])) (cCon (.int 2)))) (b:=left_at_last_l1 (cl (n+3))) (LaI sw T S) (LaQ sw T S)
  (fun m ρ S' hp=>by
   obtain ⟨L,rfl,okL,gL,hm,hL,x⟩:=hp
   have t:=la_t (cl (n+3)) (td:=tD T) (Ld:=tD L) (z:=((L.length:Nat):Int)) (S:=S') (fun S=>tD_len S)
   by_cases hz:m=0
   ·exact .inl ⟨S',by rw [t,decide_eq_false (by omega)],L,rfl,okL,gL,by omega,hL,x⟩
   ·obtain ⟨S3,e3,x3⟩:=taken_out_spec H n h4 okL (p:=2) (by omega) (by omega) S'
    exact .inr ⟨S',by rw [t,decide_eq_true (by omega)],_,S3,.inl (la_l _ e3),m - 1,by omega,⟨outT L 2,rfl,outT_ok okL (by omega) (by omega),out_gd okL gL (by omega) (by omega),by rw [outT_len (by omega)]; omega,by rw [cl_out01 okL gL (by omega) (by omega)]; exact hL,x.trans x3⟩⟩)
  wfuel (T.length - 2) [some (tD T),some (tD T)] S (Nat.lt_of_le_of_lt (show T.length - 2≤5 by omega) (by decide)) ⟨T,rfl,ok,g,by omega,rfl,Kp.refl _ _⟩
 subst hρ
 refine ⟨S2,?_,x2⟩
 rw [show n+4=(n+3)+1 from rfl,h,← hL,← two_cl okL gL hm]
 exact run_rt rfl (la_run _ e2 (ix_row okL (a:=0) (by omega) S2) (ix_ent okL (a:=0) (b:=1) (by omega) (by omega) S2))
open PySem L2 Mt
variable {cl:Nat→CLL}
theorem zip_snoc:∀ (Us:List Tb) {L V:Tb},Us.getLast?=some L→(Us++[V]).zip ((Us++[V]).drop 1)=Us.zip (Us.drop 1)++[(L,V)]
 | [],L,V,h=>by cases h
 | [x],L,V,h=>by cases h; rfl
 | x::y::r,L,V,h=>by
  have ih:=zip_snoc (y::r) (L:=L) (V:=V) (by rw [List.getLast?_cons_cons] at h; exact h)
  show (x,y)::((y::r++[V]).zip (r++[V]))=(x,y)::((y::r).zip r)++[(L,V)]
  rw [show (y::r++[V]).zip (r++[V])=(y::r).zip r++[(L,V)] from ih]
  rfl
theorem or_l (c:CLL) {i k:Nat}{nd Td Ud od:D}{z r p:Int}{S S1 S2 S3:Store} (ty:tyOk "list" (.lst k) S=true) (ix:oIx (.lst k) (.int (-1)) S=.ok Ud S) (fl:∀ S,fLen [Ud] S=.ok (.int z) S) (e1:c "_law_take" [.lst i,.int (z - 2)] S=.ok (.int r) S1) (hp:2+r=p) (e2:c "taken_out" [Ud,.int p] S1=.ok od S2) (m:mList gAppend (.lst k) [od] S2=.ok .non S3) :
  law_out_right_l1 c [some (.lst i),some nd,some Td,some (.lst k)] S=.nx [some (.lst i),some nd,some Td,some (.lst k)] S3:=by
 simp [law_out_right_l1,ty,ix,fl,e1,hp,e2,m]
theorem or_t (c:CLL) {i k:Nat}{nd Td Ud:D}{z:Int}{S:Store} (ix:oIx (.lst k) (.int (-1)) S=.ok Ud S) (fl:∀ S,fLen [Ud] S=.ok (.int z) S) :
  (cBool (cBin (oCmp fun i j=>decide (j<i)) (cApp fLen (cArgs [(cBin oIx (cVar 3) (cUn oNeg (cCon (.int 1))))])) (cCon (.int 2)))) [some (.lst i),some nd,some Td,some (.lst k)] S=.ok (decide (2<z)) S:=by
 simp [ix,fl]
theorem orr_e (c:CLL) {nd x sd:D}{b:Bool}{S S1:Store} (i0:oIx nd (.int 0) S=.ok sd S) (e:c "is_table" [sd,x] S=.ok (.bl b) S1):law_out_right_e1 c [some x,some nd] S=.ok (.bl b) S1:=by
 simp [law_out_right_e1,i0,e]
theorem or_run (c:CLL) {i:Nat}{nd td Ld r0 l1 fd l2 tk:D}{X bs:List D}{ρ:Env1}{S S1 S2 S3 S4 S5 S6 S7:Store} (hρ:ρ=[some (.lst i),some nd,some td,some (.lst S.length)])
  (e1:whileS wfuel (cBool (cBin (oCmp fun i j=>decide (j<i)) (cApp fLen (cArgs [(cBin oIx (cVar 3) (cUn oNeg (cCon (.int 1))))])) (cCon (.int 2)))) (law_out_right_l1 c) [some (.lst i),some nd,some td,some (.lst S.length)] (S++[.lst [td]])=.nx ρ S1)
  (ix:oIx (.lst S.length) (.int (-1)) S1=.ok Ld S1) (i0:oIx Ld (.int 0) S1=.ok r0 S1) (i1:oIx r0 (.int 1) S1=.ok l1 S1) (f1:c "function_of" [nd] S1=.ok fd S2) (q1:oNe l1 fd S2=.ok (.bl false) S2) (e3:c "left_at_last" [td] S2=.ok l2 S3) (f2:c "function_of" [nd] S3=.ok fd S4) (q2:oNe l2 fd S4=.ok (.bl false) S4)
  (tu:fTuple [.lst S.length] S4=.ok tk S4) (e5:c "is_taking" [td,tk] S4=.ok (.bl true) S5) (lk:lstAt S5 S.length=some X) (hl:X.length<lim) (e6:loopC [(S.length,X)] .one (fun _=>ret true) (law_out_right_e1 c) [none,some nd] X S5=.ok bs S6) (h7:S6++[.lst bs]=S7) (fb:fBools (fun bs=>bs.all id) [.lst S6.length] S7=.ok (.bl true) S7) :
  b_law_out_right c [some (.lst i),some nd,some td,none] S=.rt (.bl true) S7:=by
 subst hρ
 simp [b_law_out_right,e1,ix,i0,i1,f1,q1,e3,f2,q2,tu,e5,lk,hl,e6,h7,fb]
inductive OrI (sw:Int) (i:Nat) (nd:D) (T:Tb) (S0:Store) (m:Nat) (ρ:Env1) (S:Store):Prop
 | mk (Us:List Tb) (L:Tb) (e:ρ=[some (.lst i),some nd,some (tD T),some (.lst S0.length)]) (l:lstAt S S0.length=some (Us.map tD)) (ok:∀ U∈Us,okT sw U∧gdT U) (hh:Us.head?=some T) (hc:∀ q∈Us.zip (Us.drop 1),stepP q.1 q.2) (hl:Us.getLast?=some L) (hm:L.length=2+m) (hs:Us.length+m≤8) (hL:ent (clT sw L) 0 1=ent (clT sw T) 0 1) (kp:Kp (·=i) S0 S) (st:StOk S i)
inductive OrQ (sw:Int) (i:Nat) (nd:D) (T:Tb) (S0:Store) (ρ:Env1) (S:Store):Prop
 | mk (Us:List Tb) (L:Tb) (e:ρ=[some (.lst i),some nd,some (tD T),some (.lst S0.length)]) (l:lstAt S S0.length=some (Us.map tD)) (ok:∀ U∈Us,okT sw U∧gdT U) (hh:Us.head?=some T) (hc:∀ q∈Us.zip (Us.drop 1),stepP q.1 q.2) (hl:Us.getLast?=some L) (hm:L.length=2) (hs:Us.length≤8) (hL:ent (clT sw L) 0 1=ent (clT sw T) 0 1) (kp:Kp (·=i) S0 S) (st:StOk S i)
structure HOr (cl:Nat→CLL):Prop where
 k:HTi cl
 f:HF cl
 la:Hs_left_at_last cl
 ta:Hs_law_take cl
 oR:Hs_law_out_right cl
inductive OkR (r:R D) (d:D) (S:Store) (i:Nat):Prop
 | mk (S':Store) (e:r=.ok d S') (k:Kp (·=i) S S') (st:StOk S' i)
theorem out_right_spec (H:HOr cl) (n:Nat) {N:Net} (okN:N.g) {T:Tb} (ok:okT N.sw T) (g:gdT T) (hf:ent (clT N.sw T) 0 1=funP N) {S:Store}{i:Nat} (st:StOk S i):OkR (cl (n+7) "_law_out_right" [.lst i,N.d,tD T] S) (.bl true) S i:=by
 have il:=st.lt
 have h2:=ok.1
 have h7:=ok.2.1
 have s1:=okN.s1
 have s4:=okN.s2
 obtain ⟨ρ',S1,e1,Us,L,hρ,l,okU,hh,hc,hl,hm,hs,hL,kp,st1⟩:=while_go (t:=cBool (cBin (oCmp fun i j=>decide (j<i)) (cApp fLen (cArgs [(cBin oIx (cVar 3) (cUn oNeg (cCon (.int 1))))])) (cCon (.int 2)))) (b:=law_out_right_l1 (cl (n+6))) (OrI N.sw i N.d T S) (OrQ N.sw i N.d T S)
  (fun m ρ S1 hp=>by
   obtain ⟨Us,U,rfl,l,okU,hh,hc,hl,hm,hs,hL,kp,st1⟩:=hp
   have ix:oIx (.lst S.length) (.int (-1)) S1=.ok (tD U) S1:=by
    rw [oIx_lst l,atI_last (X:=Us.map tD) (x:=tD U) (by rw [List.getLast?_map,hl]; rfl)]
   have t:=or_t (cl (n+6)) (i:=i) (nd:=N.d) (Td:=tD T) (z:=((U.length:Nat):Int)) ix (fun S=>tD_len S)
   obtain ⟨okL,gL⟩:=okU U (List.mem_of_getLast? hl)
   by_cases hz:m=0
   ·refine .inl ⟨S1,?_,Us,U,rfl,l,okU,hh,hc,hl,by omega,by omega,hL,kp,st1⟩
    rw [t,decide_eq_false (by omega)]
   ·refine .inr ⟨S1,by rw [t,decide_eq_true (by omega)],?_⟩
    obtain ⟨r,S2,e1,r0,r1,k2,n2,st2⟩:=take_spec H.ta (n+5) st1 (m:=((U.length:Nat):Int) - 2) (by omega) (by omega)
    have hr:2+r=((2+r.toNat:Nat):Int):=by omega
    obtain ⟨S3,e2,x3⟩:=taken_out_spec H.k.o2 (n+3) s4 okL (p:=2+r.toNat) (by omega) (by omega) S2
    have l3:=x3.lst (k2.lst l (by omega)) fun z=>z
    refine ⟨_,_,.inl (or_l _ (tyOk_lst l) ix (fun S=>tD_len S) e1 hr e2 (app_ev l3 (by rw [List.length_map,lim_eq]; omega))),m - 1,by omega,⟨Us++[outT U (2+r.toNat)],outT U (2+r.toNat),rfl,?_,fun V hV=>?_,?_,fun q hq=>?_,by simp,by rw [outT_len (by omega)]; omega,by simp; omega,by rw [cl_out01 okL gL (by omega) (by omega)]; exact hL,((kp.trans k2).trans x3.kp).setNew (Nat.le_refl _),(st2.ex x3).setO (by omega)⟩⟩
    ·rw [lstAt_set l3,List.map_append]; rfl
    ·rcases List.mem_append.mp hV with hV | hV
     ·exact okU V hV
     ·rw [List.mem_singleton.mp hV]; exact ⟨outT_ok okL (by omega) (by omega),out_gd okL gL (by omega) (by omega)⟩
    ·rw [List.head?_append,hh]; rfl
    ·rw [zip_snoc Us hl] at hq
     rcases List.mem_append.mp hq with hq | hq
     ·exact hc q hq
     ·rw [List.mem_singleton.mp hq]; show stepP U (outT U (2+r.toNat)); exact ⟨2+r.toNat,by omega,by omega,rfl⟩)
  wfuel (T.length - 2) [some (.lst i),some N.d,some (tD T),some (.lst S.length)] (S++[.lst [tD T]]) (Nat.lt_of_le_of_lt (show T.length - 2≤5 by omega) (by decide))
  ⟨[T],T,rfl,lstAt_new _ _,fun U hU=>by rw [List.mem_singleton.mp hU]; exact ⟨ok,g⟩,rfl,(fun q hq=>by cases hq),rfl,by omega,by simp; omega,rfl,(ex_app _ _).kp,st.ex (ex_app _ _)⟩
 obtain ⟨okL,gL⟩:=okU L (List.mem_of_getLast? hl)
 have ix:oIx (.lst S.length) (.int (-1)) S1=.ok (tD L) S1:=by
  rw [oIx_lst l,atI_last (X:=Us.map tD) (x:=tD L) (by rw [List.getLast?_map,hl]; rfl)]
 have eL:ent L 0 1=funP N:=by rw [two_cl okL gL hm,hL,hf]
 have i0:=ix_row okL (a:=0) (by omega) S1
 have i1:=ix_ent okL (a:=0) (b:=1) (by omega) (by omega) S1
 rw [eL] at i1
 obtain ⟨S2,f1,x2⟩:=H.f.fun (n+2) okN S1
 have q1:=ne_bits (funP N) (funP N) S2
 rw [pB_t rfl] at q1
 obtain ⟨S3,e3,x3⟩:=left_spec H.la H.k.o2 (n+2) s4 ok g S2
 rw [hf] at e3
 obtain ⟨S4,f2,x4⟩:=H.f.fun (n+2) okN S3
 have q2:=ne_bits (funP N) (funP N) S4
 rw [pB_t rfl] at q2
 have x14:=(x2.trans x3).trans x4
 have l4:=x14.lst l fun z=>z
 have nkT:∀ S,Nk S 4 (.tup (Us.map tD)):=fun S=>nk_tup (by rw [List.length_map]; omega) fun x hx=>by
  obtain ⟨U,hU,rfl⟩:=List.mem_map.mp hx
  exact nk_tab S s4 (okU U hU).1 0
 obtain ⟨S5,e5,x5⟩:=is_taking_any H.k n s1 s4 ok (nkT S4)
 rw [pB_t ((tk_of okU).mpr ⟨hh,⟨L,hl,hm⟩,hc⟩)] at e5
 have l5:=x5.lst l4 fun z=>z
 obtain ⟨S6,e6,x6⟩:=comp_mapM tD (w:=[(S.length,Us.map tD)]) (t:=.one) (c:=law_out_right_e1 (cl (n+6))) (ρ0:=[none,some N.d]) (fun S'=>Ex S5 S') (fun S' x=>okW_one (x.lst l5 fun z=>z)) (fun _=>D.bl true) Us (Kp.refl _ _)
  (fun U hU S' x=>by
   obtain ⟨S7,e7,x7⟩:=is_table_any H.k.it H.k.ir H.k.sb H.k.b (n+1) s1 s4 (nk_tab S' s4 (okU U hU).1 0)
   rw [pB_t ((tab_of (okU U hU).1).mpr (okU U hU).2)] at e7
   exact ⟨_,rfl,S7,orr_e _ (sd:=.int N.sw) (by unfold Net.d; simp) e7,x.trans x7⟩)
 obtain ⟨S7,h7'⟩:∃ S7,S6++[O.lst (Us.map fun _=>D.bl true)]=S7:=⟨_,rfl⟩
 have fb:=fBools_g (fun bs=>bs.all id) (fun (_:Tb)=>true) Us (S:=S7) (n:=S6.length) (by rw [← h7']; exact lstAt_new _ _)
 have fb':fBools (fun bs=>bs.all id) [.lst S6.length] S7=.ok (.bl true) S7:=by
  rw [fb]
  have:(Us.map fun _=>true).all id=true:=by rw [List.all_eq_true]; intro x hx; obtain ⟨_,_,rfl⟩:=List.mem_map.mp hx; rfl
  rw [this]
 have x17:=(x14.trans x5).trans (x6.trans (show Ex S6 S7 by rw [← h7']; exact ex_app _ _))
 refine ⟨S7,?_,kp.trans x17.kp,st1.ex x17⟩
 rw [show n+7=(n+6)+1 from rfl,H.oR]
 exact run_rt rfl (or_run _ hρ e1 ix i0 i1 f1 q1 e3 f2 q2 (fTuple_lst l4) e5 l5 (by rw [List.length_map,lim_eq]; omega) e6 h7' fb')
open PySem L2 Mt
variable {cl:Nat→CLL}
theorem outE_cl {sw:Int}{T:Tb} (ok:okT sw T) {p a b:Nat} (hp:p<T.length) (ha:a<T.length) (hb:b<T.length):outE (clT sw T) p a b=ent (clT sw T) a b:=by
 have hp':p<(clT sw T).length:=by rw [clT_len]; exact hp
 have ha':a<(clT sw T).length:=by rw [clT_len]; exact ha
 have hb':b<(clT sw T).length:=by rw [clT_len]; exact hb
 have okW:=clT_ok ok
 refine bits_ext (outE_ok okW hp' ha' hb') (ent_at okW ha' hb').2 fun s=>?_
 unfold outE
 rw [or_bit (ent_at okW ha' hb').2 (andL_ok (ent_at okW ha' hp').2 (ent_at okW hp' hb').2),and_bit (ent_at okW ha' hp').2 (ent_at okW hp' hb').2]
 exact ⟨fun z=>z.elim id fun z=>(rel_cl_trans (T:=T) ⟨ha',hp',z.1⟩ ⟨hp',hb',z.2⟩).2.2,.inl⟩
noncomputable def subT (W:Tb) (n p:Nat):Tb:=(kps n p).map fun a=>(kps n p).map fun b=>ent W a b
theorem out_sub {sw:Int}{T:Tb} (ok:okT sw T) {p:Nat} (hp:p<T.length):outT (clT sw T) p=subT (clT sw T) T.length p:=by
 unfold outT outR subT
 rw [clT_len]
 refine List.map_congr_left fun a ha=>List.map_congr_left fun b hb=>?_
 exact outE_cl ok hp (kps_mem.mp ha).1 (kps_mem.mp hb).1
theorem cr_e2 (c:CLL) {wd rd ld:D}{a b:Int}{S:Store} (i1:oIx wd (.int a) S=.ok rd S) (i2:oIx rd (.int b) S=.ok ld S):law_closed_right_v2_e2 c [some (.int b),some wd,some (.int a)] S=.ok ld S:=by
 simp [law_closed_right_v2_e2,i1,i2]
theorem cr_e1 (c:CLL) {q:Nat}{wd:D}{a:Int}{K R:List D}{S S1:Store} (lk:lstAt S q=some K) (hk:K.length<lim) (e:loopC [(q,K)] .one (fun _=>ret true) (law_closed_right_v2_e2 c) [none,some wd,some (.int a)] K S=.ok R S) (h1:S++[.lst R]=S1) (t:fTuple [.lst S.length] S1=.ok (.tup R) S1):law_closed_right_v2_e1 c [some (.int a),some (.lst q),some wd] S=.ok (.tup R) S1:=by
 simp [law_closed_right_v2_e1,lk,hk,e,h1,t]
theorem cr_l (c:CLL) {nd td wd od ud vd:D}{p z:Int}{m:Nat}{K R:List D}{w4:Option D}{S S1 S2 S3 S4 S5 S6 S7:Store} (i1:∀ S,oIx nd (.int 1) S=.ok (.int z) S) (f1:-4611686018427387904≤z) (f2:z<4611686018427387904) (ta:z.toNat=m) (hm:(upD 0 m).length<lim)
  (e1:loopC [] .one (law_closed_right_v2_t3 c) (law_closed_right_v2_e3 c) [none,some (.int p)] (upD 0 m) S=.ok K S) (h1:S++[.lst K]=S1) (e2:c "taken_out" [wd,.int p] S1=.ok od S2) (lk:lstAt S2 S.length=some K) (hk:K.length<lim) (e3:loopC [(S.length,K)] .one (fun _=>ret true) (law_closed_right_v2_e1 c) [none,some (.lst S.length),some wd] K S2=.ok R S3)
  (h4:S3++[.lst R]=S4) (t:fTuple [.lst S3.length] S4=.ok (.tup R) S4) (q1:oNe od (.tup R) S4=.ok (.bl false) S4) (e5:c "taken_out" [td,.int p] S4=.ok ud S5) (e6:c "closed" [ud] S5=.ok vd S6) (e7:c "taken_out" [wd,.int p] S6=.ok od S7) (q2:oNe vd od S7=.ok (.bl false) S7) :
  law_closed_right_v2_l1 c [some nd,some td,some wd,some (.int p),w4] S=.nx [some nd,some td,some wd,some (.int p),some (.lst S.length)] S7:=by
 simp [law_closed_right_v2_l1,i1,f1,f2,ta,hm,e1,h1,e2,lk,hk,e3,h4,t,q1,e5,e6,e7,q2]
structure HCr (cl:Nat→CLL):Prop where
 o2:HO2 cl
 c:HCo cl
 f:HF cl
 cr:Hs_law_closed_right_v2 cl
theorem cr_l_spec (H:HCr cl) (n:Nat) {N:Net} (okN:N.g) {T:Tb} (ok:okT N.sw T) (g:gdT T) (hl:T.length=N.pl.toNat) {p:Nat} (p2:2≤p) (hp:p<T.length) (w4:Option D) (S:Store) :
  ∃ w4' S',law_closed_right_v2_l1 (cl (n+5)) [some N.d,some (tD T),some (tD (clT N.sw T)),some (.int (p:Nat)),w4] S=.nx [some N.d,some (tD T),some (tD (clT N.sw T)),some (.int (p:Nat)),w4'] S'∧Ex S S':=by
 have s1:=okN.s1
 have s4:=okN.s2
 have h7:=ok.2.1
 have h3:3≤T.length:=by omega
 have hp0:=okN.p1
 have okW:=clT_ok ok
 have gW:=cl_gd ok g
 have hpW:p<(clT N.sw T).length:=by rw [clT_len]; exact hp
 have e1:loopC [] .one (law_closed_right_v2_t3 (cl (n+5))) (law_closed_right_v2_e3 (cl (n+5))) [none,some (.int (p:Nat))] (upD 0 T.length) S=.ok ((kps T.length p).map fun b=>D.int (b:Nat)) S:=by
  rw [up_map]
  refine comp_pure (fun (k:Nat)=>D.int (k:Int)) (okW_nil _) (fun a=>a != p) (fun (k:Nat)=>D.int (k:Int)) (List.range T.length) fun a _=>⟨_,rfl,?_,fun _=>by simp [law_closed_right_v2_e3]⟩
  by_cases h:a=p
  ·subst h; simp [law_closed_right_v2_t3]
  ·have:¬ ((a:Int)=(p:Int)):=by omega
   simp [law_closed_right_v2_t3,h,this]
 obtain ⟨K,hK⟩:∃ K,((kps T.length p).map fun b=>D.int (b:Nat))=K:=⟨_,rfl⟩
 have hk:K.length<lim:=by rw [← hK,List.length_map,lim_eq]; have:=@kps_le T.length p; omega
 obtain ⟨S1,h1⟩:∃ S1,S++[O.lst K]=S1:=⟨_,rfl⟩
 have x1:Ex S S1:=by rw [← h1]; exact ex_app _ _
 have l1:lstAt S1 S.length=some K:=by rw [← h1]; exact lstAt_new _ _
 obtain ⟨S2,e2,x2⟩:=taken_out_spec H.o2 (n+2) s4 okW p2 hpW S1
 have l2:=x2.lst l1 fun z=>z
 obtain ⟨S3,e3,x3⟩:=comp_mapM (fun (a:Nat)=>D.int (a:Nat)) (w:=[(S.length,K)]) (t:=.one) (c:=law_closed_right_v2_e1 (cl (n+5))) (ρ0:=[none,some (.lst S.length),some (tD (clT N.sw T))]) (fun S'=>Ex S2 S') (fun S' x=>okW_one (x.lst l2 fun z=>z)) (fun a=>D.tup ((kps T.length p).map fun b=>bitsD (ent (clT N.sw T) a b))) (kps T.length p) (Kp.refl _ _)
  (fun a ha S' x=>by
   have ha':a<(clT N.sw T).length:=by rw [clT_len]; exact (kps_mem.mp ha).1
   have l3:=x.lst l2 fun z=>z
   obtain ⟨S4,h4⟩:∃ S4,S'++[O.lst ((kps T.length p).map fun b=>bitsD (ent (clT N.sw T) a b))]=S4:=⟨_,rfl⟩
   refine ⟨_,rfl,S4,cr_e1 _ l3 hk ?_ h4 (by rw [← h4]; exact fTuple_lst (lstAt_new _ _)),x.trans (by rw [← h4]; exact ex_app _ _)⟩
   have:=comp_pureM (fun (b:Nat)=>D.int (b:Nat)) (w:=[(S.length,K)]) (t:=.one) (c:=law_closed_right_v2_e2 (cl (n+5))) (ρ0:=[none,some (tD (clT N.sw T)),some (.int (a:Nat))]) (S:=S') (okW_one l3) (fun b=>bitsD (ent (clT N.sw T) a b)) (kps T.length p) fun b hb=>⟨_,rfl,cr_e2 _ (ix_row okW ha' S') (ix_ent okW ha' (show b<(clT N.sw T).length by rw [clT_len]; exact (kps_mem.mp hb).1) S')⟩
   rw [hK] at this
   exact this)
 rw [hK] at e1 e3
 obtain ⟨R,hR⟩:∃ R,((kps T.length p).map fun a=>D.tup ((kps T.length p).map fun b=>bitsD (ent (clT N.sw T) a b)))=R:=⟨_,rfl⟩
 rw [hR] at e3
 have hsub:D.tup R=tD (outT (clT N.sw T) p):=by
  rw [out_sub ok hp,← hR]
  unfold tD subT rowD
  rw [List.map_map]
  congr 1
  refine List.map_congr_left fun a _=>?_
  simp only [Function.comp]
  rw [List.map_map]; rfl
 obtain ⟨S4,h4⟩:∃ S4,S3++[O.lst R]=S4:=⟨_,rfl⟩
 have q1:=ne_tab (outT (clT N.sw T) p) (outT (clT N.sw T) p) S4
 rw [pB_t rfl] at q1
 obtain ⟨S5,e5,x5⟩:=taken_out_spec H.o2 (n+2) s4 ok p2 hp S4
 obtain ⟨S6,e6,x6⟩:=closed_spec H.c n s1 s4 (outT_ok ok hp h3) (out_gd ok g hp h3) S5
 obtain ⟨S7,e7,x7⟩:=taken_out_spec H.o2 (n+2) s4 okW p2 hpW S6
 have q2:=ne_tab (clT N.sw (outT T p)) (outT (clT N.sw T) p) S7
 rw [pB_t (cl_out ok g hp h3)] at q2
 have x4:Ex S3 S4:=by rw [← h4]; exact ex_app _ _
 refine ⟨_,S7,cr_l _ (z:=N.pl) (m:=T.length) (fun S=>by unfold Net.d; simp) (by omega) (by have:=okN.p2; omega) (by omega) (by rw [upD_len,lim_eq]; omega) e1 h1 e2 l2 hk e3 h4 (by rw [← h4]; exact fTuple_lst (lstAt_new _ _)) (by rw [hsub]; exact q1) e5 e6 e7 q2,((x1.trans x2).trans (x3.trans x4)).trans ((x5.trans x6).trans x7)⟩
theorem cr_run (c:CLL) {nd td wd r0 fd:D}{z:Int}{m:Nat}{ρ:Env1}{S S1 S2 S3 S4 S5:Store} (e1:c "closed" [td] S=.ok wd S1) (i0:oIx wd (.int 0) S1=.ok r0 S1) (i1:oIx r0 (.int 1) S1=.ok fd S1) (f:c "function_of" [nd] S1=.ok fd S2) (q1:oNe fd fd S2=.ok (.bl false) S2) (e3:c "closed" [wd] S2=.ok wd S3) (q2:∀ S,oNe wd wd S=.ok (.bl false) S) (e4:c "come_to" [wd,td] S3=.ok wd S4)
  (iz:∀ S,oIx nd (.int 1) S=.ok (.int z) S) (f1:-4611686018427387904≤z) (f2:z<4611686018427387904) (ta:(z - 2).toNat=m) (e5:loopS [] (gN 3) (law_closed_right_v2_l1 c) (upD 2 m) [some nd,some td,some wd,none,none] S4=.nx ρ S5):b_law_closed_right_v2 c [some nd,some td,none,none,none] S=.rt (.bl true) S5:=by
 simp [b_law_closed_right_v2,e1,i0,i1,f,q1,e3,q2,e4,iz,f1,f2,ta,e5]
inductive CrI (nd td wd:D) (S0:Store) (j:Nat) (ρ:Env1) (S:Store):Prop
 | mk (v3 v4:Option D) (e:ρ=[some nd,some td,some wd,v3,v4]) (x:Ex S0 S)
theorem closed_right_spec (H:HCr cl) (n:Nat) {N:Net} (okN:N.g) (S:Store):Spc (cl (n+6) "_law_closed_right" [N.d,tD (tieT N)] S) (.bl true) S:=by
 have s1:=okN.s1
 have s4:=okN.s2
 have hp0:=okN.p1
 have ok:=tieT_okT okN
 have g:=tie_gd okN
 have okW:=clT_ok ok
 have gW:=cl_gd ok g
 have hlen:=tieT_len N
 have lW:(clT N.sw (tieT N)).length=N.pl.toNat:=by rw [clT_len,hlen]
 obtain ⟨S1,e1,x1⟩:=closed_spec H.c n s1 s4 ok g S
 have i0:=ix_row okW (a:=0) (by omega) S1
 have i1:=ix_ent okW (a:=0) (b:=1) (by omega) (by omega) S1
 rw [fun_cl okN] at i1
 obtain ⟨S2,f,x2⟩:=H.f.fun (n+1) okN S1
 have q1:=ne_bits (funP N) (funP N) S2
 rw [pB_t rfl] at q1
 obtain ⟨S3,e3,x3⟩:=closed_spec H.c n s1 s4 okW gW S2
 rw [cl_cl ok g] at e3
 have gC:gdT (comT N.sw (clT N.sw (tieT N)) (tieT N)):=by rw [com_cl ok g]; exact gW
 obtain ⟨S4,e4,x4⟩:=come_to_spec H.c (n+1) s1 s4 okW ok (clT_len _ _) gC S3
 rw [com_cl ok g] at e4
 have q2:∀ S,oNe (tD (clT N.sw (tieT N))) (tD (clT N.sw (tieT N))) S=.ok (.bl false) S:=fun S=>by
  rw [ne_tab,pB_t rfl]; rfl
 obtain ⟨ρ',S5,e5,_,_,_,x5⟩:=loop_inv (w:=[]) (g:=gN 3) (b:=law_closed_right_v2_l1 (cl (n+5))) (items:=upD 2 (N.pl - 2).toNat) (CrI N.d (tD (tieT N)) (tD (clT N.sw (tieT N))) S4) (ρ:=[some N.d,some (tD (tieT N)),some (tD (clT N.sw (tieT N))),none,none]) (S:=S4)
  (fun _ _ _ _=>okW_nil _) ⟨none,none,rfl,Kp.refl _ _⟩
  (fun j d ρ S' hd hp=>by
   obtain ⟨v3,v4,rfl,x⟩:=hp
   rw [upD_get] at hd
   obtain ⟨hj,rfl⟩:=hd
   have hz:(2+(j:Int))=((2+j:Nat):Int):=by omega
   obtain ⟨w4',S6,e6,x6⟩:=cr_l_spec H n okN ok g hlen (p:=2+j) (by omega) (by omega) v4 S'
   rw [hz]
   exact ⟨_,_,rfl,_,S6,.inl e6,⟨_,_,rfl,x.trans x6⟩⟩)
 refine ⟨S5,?_,((x1.trans x2).trans (x3.trans x4)).trans x5⟩
 rw [show n+6=(n+5)+1 from rfl,H.cr]
 exact run_rt rfl (cr_run _ e1 i0 i1 f q1 e3 q2 e4 (z:=N.pl) (fun S=>by unfold Net.d; simp) (by omega) (by have:=okN.p2; omega) rfl e5)
open PySem L2 Mt
variable {cl:Nat→CLL}
theorem tie_cut {N:Net}{i s a b:Nat} (h:rel (tieT (N.cutN i)) s a b):rel (tieT N) s a b:=by
 obtain ⟨ha,hb,st,h1,h2⟩:=rel_tie.mp h
 refine rel_tie.mpr ⟨ha,hb,st,h1,pB_t ?_⟩
 rcases pB_iff.mp h2 with e | ⟨c,hc,ht,hs⟩
 ·exact .inl e
 ·refine .inr ⟨c,?_,ht,hs⟩
  have hc':c∈N.cs.take i++N.cs.drop (i+1):=hc
  rcases List.mem_append.mp hc' with z | z
  ·exact List.mem_of_mem_take z
  ·exact List.mem_of_mem_drop z
theorem cl_cut {N:Net}{i s a b:Nat} (h:rel (clT N.sw (tieT (N.cutN i))) s a b):rel (clT N.sw (tieT N)) s a b:=by
 obtain ⟨q1,q2,q3,q4⟩:=rel_cl.mp h
 rw [tieT_len] at q2 q3
 exact rel_cl.mpr ⟨q1,by rw [tieT_len]; exact q2,by rw [tieT_len]; exact q3,q4.mono fun x y r=>.step (tie_cut r)⟩
def leL (l m:List Int):Prop:=∀ p∈l.zip m,p.2≤p.1
theorem leL_of {sw:Int}{l m:List Int} (hl:okF sw l) (hm:okF sw m) (h:∀ s:Nat,m[s]?=some 1→l[s]?=some 1):leL l m:=fun p hp=>by
 obtain ⟨s,hs,e⟩:=List.mem_iff_getElem.mp hp
 have hg:=List.getElem?_eq_getElem hs
 rw [e] at hg
 have hz:=(List.getElem?_zip_eq_some (z:=p)).mp hg
 have b1:=hl.2 _ (List.mem_of_getElem? hz.1)
 have b2:=hm.2 _ (List.mem_of_getElem? hz.2)
 rcases bit_or b2 with q | q
 ·rw [q]; exact b1.1
 ·have:=h s (by rw [hz.2,q])
  rw [hz.1] at this
  have:=Option.some.inj this
  omega
theorem m_e2 (c:CLL) {x y:Int} (h:y≤x) (S:Store):law_v26_e2 c [some (.int x),some (.int y)] S=.ok (.bl true) S:=by
 simp [law_v26_e2,h]
theorem m_e1 (c:CLL) {X Y bs:List D}{S S1:Store} (hl:(zipD X Y).length<lim) (e:loopC [] (.many 2) (fun _=>ret true) (law_v26_e2 c) [none,none] (zipD X Y) S=.ok bs S) (h1:S++[.lst bs]=S1) (fb:fBools (fun bs=>bs.all id) [.lst S.length] S1=.ok (.bl true) S1):law_v26_e1 c [some (.tup X),some (.tup Y)] S=.ok (.bl true) S1:=by
 simp [law_v26_e1,hl,e,h1,fb]
theorem all_true {α:Type}{S:Store}{n:Nat} (l:List α) (h:lstAt S n=some (l.map fun _=>D.bl true)):fBools (fun bs=>bs.all id) [.lst n] S=.ok (.bl true) S:=by
 rw [fBools_g (fun bs=>bs.all id) (fun (_:α)=>true) l h]
 have:(l.map fun _=>true).all id=true:=by rw [List.all_eq_true]; intro x hx; obtain ⟨_,_,rfl⟩:=List.mem_map.mp hx; rfl
 rw [this]
theorem m_e1_spec (c:CLL) {l m:List Int} (hl:l.length≤16) (h:leL l m) (S:Store):∃ S1,law_v26_e1 c [some (bitsD l),some (bitsD m)] S=.ok (.bl true) S1∧Ex S S1:=by
 have z:zipD (l.map D.int) (m.map D.int)=(l.zip m).map fun p=>.tup [.int p.1,.int p.2]:=by
  unfold zipD
  rw [List.zip_map,List.map_map]; rfl
 have e1:loopC [] (.many 2) (fun _=>ret true) (law_v26_e2 c) [none,none] (zipD (l.map D.int) (m.map D.int)) S=.ok ((l.zip m).map fun _=>D.bl true) S:=by
  rw [z]
  exact comp_pureM (fun (p:Int × Int)=>D.tup [.int p.1,.int p.2]) (okW_nil _) _ _ fun p hp=>⟨[some (.int p.1),some (.int p.2)],rfl,m_e2 _ (h p hp) S⟩
 obtain ⟨S1,h1⟩:∃ S1,S++[O.lst ((l.zip m).map fun _=>D.bl true)]=S1:=⟨_,rfl⟩
 refine ⟨S1,m_e1 _ ?_ e1 h1 (all_true (l.zip m) (by rw [← h1]; exact lstAt_new _ _)),by rw [← h1]; exact ex_app _ _⟩
 rw [z,List.length_map,List.length_zip,lim_eq]; omega
theorem m_l2 (c:CLL) {sc jd st nd td ld:D}{X Y bs:List D}{S S1 S2:Store} (hl:(zipD X Y).length<lim) (e:loopC [] (.many 2) (fun _=>ret true) (law_v26_e1 c) [none,none] (zipD X Y) S=.ok bs S1) (h1:S1++[.lst bs]=S2) (fb:fBools (fun bs=>bs.all id) [.lst S1.length] S2=.ok (.bl true) S2) :
  law_v26_l2 c [some sc,some jd,some st,some nd,some td,some ld,some (.tup X),some (.tup Y)] S=.nx [some sc,some jd,some st,some nd,some td,some ld,some (.tup X),some (.tup Y)] S2:=by
 simp [law_v26_l2,hl,e,h1,fb]
theorem m_l2_spec (c:CLL) {sw:Int} (h4:sw≤4) {sc jd st nd td ld:D}{R Q:List (List Int)}{p:Nat} (hp:p≤7) (hR:okR sw p R) (h:∀ q∈R.zip Q,leL q.1 q.2) (S:Store) :
  ∃ S2,law_v26_l2 c [some sc,some jd,some st,some nd,some td,some ld,some (rowD R),some (rowD Q)] S=.nx [some sc,some jd,some st,some nd,some td,some ld,some (rowD R),some (rowD Q)] S2∧Ex S S2:=by
 have z:zipD (R.map bitsD) (Q.map bitsD)=(R.zip Q).map fun q=>.tup [bitsD q.1,bitsD q.2]:=by
  unfold zipD; rw [List.zip_map,List.map_map]; rfl
 obtain ⟨S1,e1,x1⟩:=comp_mapM (fun (q:List Int × List Int)=>D.tup [bitsD q.1,bitsD q.2]) (w:=[]) (t:=.many 2) (c:=law_v26_e1 c) (ρ0:=[none,none]) (fun S'=>Ex S S') (fun S' _=>okW_nil _) (fun _=>D.bl true) (R.zip Q) (Kp.refl _ _)
  (fun q hq S' x=>by
   obtain ⟨S2,e2,x2⟩:=m_e1_spec c (okF_len h4 (hR.2 _ (List.of_mem_zip (a:=q.1) (b:=q.2) hq).1)) (h q hq) S'
   exact ⟨[some (bitsD q.1),some (bitsD q.2)],rfl,S2,e2,x.trans x2⟩)
 rw [← z] at e1
 obtain ⟨S2,h2⟩:∃ S2,S1++[O.lst ((R.zip Q).map fun _=>D.bl true)]=S2:=⟨_,rfl⟩
 refine ⟨S2,m_l2 c ?_ e1 h2 (all_true (R.zip Q) (by rw [← h2]; exact lstAt_new _ _)),x1.trans (by rw [← h2]; exact ex_app _ _)⟩
 rw [z,List.length_map,List.length_zip,lim_eq,hR.1]; omega
structure HL65 (cl:Nat→CLL):Prop where
 d:HD cl
 f:HF cl
 o:HOr cl
 r:HCr cl
 to:Hs_table_of cl
 tr:Hs_tied_row cl
 ti:Hs_tied cl
 cu:Hs_cut cl
 re:Hs_refuse_no_contact cl
 wh:Hs_is_whole cl
inductive MI (sc jd st nd td ld:D) (S0:Store) (j:Nat) (ρ:Env1) (S:Store):Prop
 | mk (v6 v7:Option D) (e:ρ=[some sc,some jd,some st,some nd,some td,some ld,v6,v7]) (x:Ex S0 S)
theorem mono_loop (c:CLL) {N:Net} (ok:N.g) (i:Nat) {sc jd st nd td ld:D} (v6 v7:Option D) (S:Store) :
  ∃ w6 w7 S',loopS [] (gT [gN 6,gN 7]) (law_v26_l2 c) (zipD ((clT N.sw (tieT N)).map rowD) ((clT N.sw (tieT (N.cutN i))).map rowD)) [some sc,some jd,some st,some nd,some td,some ld,v6,v7] S=.nx [some sc,some jd,some st,some nd,some td,some ld,w6,w7] S'∧Ex S S':=by
 have okW:=clT_ok (tieT_okT ok)
 have okV:okT N.sw (clT N.sw (tieT (N.cutN i))):=clT_ok (tieT_okT (cut_ok ok i))
 have lW:(clT N.sw (tieT N)).length=N.pl.toNat:=by rw [clT_len,tieT_len]
 have lV:(clT N.sw (tieT (N.cutN i))).length=N.pl.toNat:=by rw [clT_len,tieT_len]; rfl
 have h7:=okW.2.1
 have z:zipD ((clT N.sw (tieT N)).map rowD) ((clT N.sw (tieT (N.cutN i))).map rowD)=(((clT N.sw (tieT N))).zip (clT N.sw (tieT (N.cutN i)))).map fun q=>.tup [rowD q.1,rowD q.2]:=by
  unfold zipD; rw [List.zip_map,List.map_map]; rfl
 rw [z]
 obtain ⟨ρ',S',e,w6,w7,hρ,x⟩:=loop_inv (w:=[]) (g:=gT [gN 6,gN 7]) (b:=law_v26_l2 c) (items:=(((clT N.sw (tieT N))).zip (clT N.sw (tieT (N.cutN i)))).map fun q=>D.tup [rowD q.1,rowD q.2]) (MI sc jd st nd td ld S) (ρ:=[some sc,some jd,some st,some nd,some td,some ld,v6,v7]) (S:=S)
  (fun _ _ _ _=>okW_nil _) ⟨v6,v7,rfl,Kp.refl _ _⟩
  (fun j d ρ S1 hd hp=>by
   obtain ⟨v6,v7,rfl,x⟩:=hp
   rw [List.getElem?_map] at hd
   obtain ⟨q,hq,rfl⟩:=Option.map_eq_some_iff.mp hd
   have hz:=(List.getElem?_zip_eq_some (z:=q)).mp hq
   have ja:j<(clT N.sw (tieT N)).length:=(List.getElem?_eq_some_iff.mp hz.1).1
   have jb:j<(clT N.sw (tieT (N.cutN i))).length:=(List.getElem?_eq_some_iff.mp hz.2).1
   have r1:=row_at okW ja
   have r2:=row_at okV jb
   have e1:q.1=(clT N.sw (tieT N)).getD j []:=Option.some.inj (hz.1.symm.trans r1.1)
   have e2:q.2=(clT N.sw (tieT (N.cutN i))).getD j []:=Option.some.inj (hz.2.symm.trans r2.1)
   obtain ⟨S2,e3,x3⟩:=m_l2_spec c ok.s2 (sc:=sc) (jd:=jd) (st:=st) (nd:=nd) (td:=td) (ld:=ld) (R:=q.1) (Q:=q.2) h7 (by rw [e1]; exact r1.2) (fun t ht=>by
    obtain ⟨b,hb,eb⟩:=List.mem_iff_getElem.mp ht
    have hg:=List.getElem?_eq_getElem hb
    rw [eb] at hg
    have hzb:=(List.getElem?_zip_eq_some (z:=t)).mp hg
    rw [e1] at hzb
    have ba:b<(clT N.sw (tieT N)).length:=by rw [← r1.2.1]; exact (List.getElem?_eq_some_iff.mp hzb.1).1
    have bb:b<(clT N.sw (tieT (N.cutN i))).length:=by omega
    have g1:=ent_at okW ja ba
    have g2:=ent_at okV jb bb
    have t1:t.1=ent (clT N.sw (tieT N)) j b:=Option.some.inj (hzb.1.symm.trans g1.1)
    have t2:t.2=ent (clT N.sw (tieT (N.cutN i))) j b:=by rw [e2] at hzb; exact Option.some.inj (hzb.2.symm.trans g2.1)
    rw [t1,t2]
    exact leL_of g1.2 g2.2 fun s hs=>(cl_cut (i:=i) ⟨jb,bb,hs⟩).2.2) S1
   exact ⟨_,_,rfl,_,S2,.inl e3,⟨_,_,rfl,x.trans x3⟩⟩)
 subst hρ
 exact ⟨w6,w7,S',e,x⟩
open PySem L2 Mt
variable {cl:Nat→CLL}
theorem ne_cs (cs:List Ct) (S:Store):oNe (.tup (cs.map Ct.d)) (.tup []) S=.ok (.bl (!cs.isEmpty)) S:=by
 have p:plain 40 (.tup (cs.map Ct.d))=true:=plain_tup (n:=39) fun x hx=>by
  obtain ⟨c,_,rfl⟩:=List.mem_map.mp hx
  exact plain_tup (n:=38) fun y hy=>by
   simp only [List.mem_cons,List.not_mem_nil,or_false] at hy
   rcases hy with rfl | rfl | rfl | rfl <;> exact plain_int (by decide) _
 rw [oNe_plain S p rfl]
 have:eqB (D.tup (cs.map Ct.d)) (.tup [])=cs.isEmpty:=bool_ext (eqB_iff.trans (by
  cases cs with
  | nil=>exact ⟨fun _=>rfl,fun _=>rfl⟩
  | cons _ _=>exact ⟨fun z=>(by injection z with z; cases z),fun z=>(by cases z)⟩))
 rw [this]
theorem l65_run0 (c:CLL) {sc jd nd td wd:D}{C:List D}{w2 w3 w4 w5 w6 w7:Option D}{i0:Nat}{r1 mo:Int}{S S1 S2 S3 S4 S5 S6 S7 S8 S9:Store} (e1:c "_law_state" [sc,jd] S=.ok (.lst i0) S1) (h2:S1++[.lst [.int 5,.int 8,.int 12]]=S2) (e3:c "_law_take" [.lst i0,.int 3] S2=.ok (.int r1) S3) (em:oIx (.lst S1.length) (.int r1) S3=.ok (.int mo) S3) (e4:c "_law_net" [.lst i0,.int 4,.int 7,.int mo] S3=.ok nd S4)
  (e5:c "table_of" [nd] S4=.ok td S5) (e6:c "_law_out_right" [.lst i0,nd,td] S5=.ok (.bl true) S6) (e7:c "closed" [td] S6=.ok wd S7) (e8:c "_law_out_right" [.lst i0,nd,wd] S7=.ok (.bl true) S8) (e9:c "_law_closed_right" [nd,td] S8=.ok (.bl true) S9) (i2:oIx nd (.int 2) S9=.ok (.tup C) S9) (q:oNe (.tup C) (.tup []) S9=.ok (.bl false) S9) :
  law_v26_l1 c [some sc,some jd,w2,w3,w4,w5,w6,w7] S=.nx [some sc,some jd,some (.lst i0),some nd,some td,w5,w6,w7] S9:=by
 simp [law_v26_l1,e1,h2,e3,em,e4,e5,e6,e7,e8,e9,i2,q]
theorem l65_run1 (c:CLL) {sc jd nd td nd2 td2:D}{C W V:List D}{w2 w3 w4 w5 w6 w7:Option D}{i0:Nat}{r1 mo lc r:Int}{ρ:Env1}{S S1 S2 S3 S4 S5 S6 S7 S8 S9 S10 S11 S12 S13 S14:Store} (e1:c "_law_state" [sc,jd] S=.ok (.lst i0) S1) (h2:S1++[.lst [.int 5,.int 8,.int 12]]=S2) (e3:c "_law_take" [.lst i0,.int 3] S2=.ok (.int r1) S3) (em:oIx (.lst S1.length) (.int r1) S3=.ok (.int mo) S3) (e4:c "_law_net" [.lst i0,.int 4,.int 7,.int mo] S3=.ok nd S4)
  (e5:c "table_of" [nd] S4=.ok td S5) (e6:c "_law_out_right" [.lst i0,nd,td] S5=.ok (.bl true) S6) (e7:c "closed" [td] S6=.ok (.tup W) S7) (e8:c "_law_out_right" [.lst i0,nd,.tup W] S7=.ok (.bl true) S8) (e9:c "_law_closed_right" [nd,td] S8=.ok (.bl true) S9) (i2:oIx nd (.int 2) S9=.ok (.tup C) S9) (q:oNe (.tup C) (.tup []) S9=.ok (.bl true) S9)
  (hlc:(C.length:Int)=lc) (e10:c "_law_take" [.lst i0,.int lc] S9=.ok (.int r) S10) (e11:c "cut" [nd,.int r] S10=.ok nd2 S10) (e12:c "table_of" [nd2] S10=.ok td2 S11) (e13:c "closed" [td2] S11=.ok (.tup V) S12) (e14:c "closed" [td] S12=.ok (.tup W) S13) (e15:loopS [] (gT [gN 6,gN 7]) (law_v26_l2 c) (zipD W V) [some sc,some jd,some (.lst i0),some nd,some td,some (.tup V),w6,w7] S13=.nx ρ S14) :
  law_v26_l1 c [some sc,some jd,w2,w3,w4,w5,w6,w7] S=.nx ρ S14:=by
 simp [law_v26_l1,e1,h2,e3,em,e4,e5,e6,e7,e8,e9,i2,q,hlc,e10,e11,e12,e13,e14,e15]
inductive E8 (sc:D) (ρ:Env1):Prop
 | mk (w1 w2 w3 w4 w5 w6 w7:Option D) (e:ρ=[some sc,w1,w2,w3,w4,w5,w6,w7])
theorem row65 (H:HL65 cl) (n:Nat) (ns:List Int) {sc:D} (hsc:D.rol (ns.map D.int)=sc) (jj:Int) (hj:0≤jj) (S:Store) (w2 w3 w4 w5 w6 w7:Option D):∃ ρ S',law_v26_l1 (cl (n+7)) [some sc,some (.int jj),w2,w3,w4,w5,w6,w7] S=.nx ρ S'∧E8 sc ρ:=by
 obtain ⟨S1,e1,x1,st1⟩:=state_spec H.d.st H.d.ce (n+5) ns jj hj S
 rw [hsc] at e1
 obtain ⟨i0,hi0⟩:∃ i0,S.length=i0:=⟨_,rfl⟩
 rw [hi0] at e1 st1
 have x2:=ex_app S1 [.lst [.int 5,.int 8,.int 12]]
 obtain ⟨r1,S3,e3,b1,b2,k3,n3,st3⟩:=take_spec H.d.ta (n+6) (st1.ex x2) (m:=3) (by decide) (by decide)
 have l3:lstAt S3 S1.length=some [.int 5,.int 8,.int 12]:=k3.lst (lstAt_new _ _) (by have:=st1.lt; omega)
 obtain ⟨mo,em,mo1,mo2⟩:∃ mo,oIx (.lst S1.length) (.int r1) S3=.ok (.int mo) S3∧0≤mo∧mo≤16:=by
  have e:=oIx_lst l3 r1
  have:r1=0∨r1=1∨r1=2:=by omega
  rcases this with rfl | rfl | rfl
  ·exact ⟨5,by rw [e]; rfl,by decide,by decide⟩
  ·exact ⟨8,by rw [e]; rfl,by decide,by decide⟩
  ·exact ⟨12,by rw [e]; rfl,by decide,by decide⟩
 obtain ⟨N,S4,e4,okN,k4,st4⟩:=net_spec H.d.ne H.d.en H.d.ta (n+4) st3 (ms:=4) (mp:=7) (mc:=mo) (by decide) (by decide) ⟨mo1,mo2⟩
 have ok:N.g:=okN.up (by decide) (by decide) mo2
 have okT':=tieT_okT ok
 have g:=tie_gd ok
 obtain ⟨S5,e5,x5⟩:=table_of_spec H.to H.tr H.ti H.f n ok S4
 obtain ⟨S6,e6,k6,st6⟩:=out_right_spec H.o n ok okT' g (fun_cl ok) (st4.ex x5)
 obtain ⟨S7,e7,x7⟩:=closed_spec H.r.c (n+2) ok.s1 ok.s2 okT' g S6
 obtain ⟨S8,e8,k8,st8⟩:=out_right_spec H.o n ok (clT_ok okT') (cl_gd okT' g) (by rw [cl_cl okT' g]; exact fun_cl ok) (st6.ex x7)
 obtain ⟨S9,e9,x9⟩:=closed_right_spec H.r (n+1) ok S8
 have st9:=st8.ex x9
 have i2:oIx N.d (.int 2) S9=.ok (.tup (N.cs.map Ct.d)) S9:=by unfold Net.d; simp
 have q:=ne_cs N.cs S9
 cases hE:N.cs.isEmpty with
 | true =>
  rw [hE] at q
  exact ⟨_,S9,l65_run0 _ e1 rfl e3 em e4 e5 e6 e7 e8 e9 i2 q,⟨_,_,_,_,_,_,_,rfl⟩⟩
 | false =>
  rw [hE] at q
  have hlen:0<N.cs.length:=by
   cases hc:N.cs with
   | nil=>rw [hc] at hE; cases hE
   | cons _ _=>simp
  have c1:=ok.c1
  obtain ⟨r,S10,e10,a0,a1,k10,n10,st10⟩:=take_spec H.d.ta (n+6) st9 (m:=((N.cs.map Ct.d).length:Int)) (by rw [List.length_map]; omega) (by rw [List.length_map]; omega)
  rw [List.length_map] at a1
  have hr:r=((r.toNat:Nat):Int):=by omega
  have e11:=cut_spec H.cu H.re H.wh (n+4) (ok.len (by decide)) (i:=r.toNat) (by omega) S10
  rw [← hr] at e11
  have okC:=cut_ok ok r.toNat
  obtain ⟨S11,e12,x12⟩:=table_of_spec H.to H.tr H.ti H.f n okC S10
  obtain ⟨S12,e13,x13⟩:=closed_spec H.r.c (n+2) (sw:=N.sw) (T:=tieT (N.cutN r.toNat)) ok.s1 ok.s2 (tieT_okT okC) (tie_gd okC) S11
  obtain ⟨S13,e14,x14⟩:=closed_spec H.r.c (n+2) ok.s1 ok.s2 okT' g S12
  obtain ⟨v6,v7,S14,e15,x15⟩:=mono_loop (cl (n+7)) ok r.toNat (sc:=sc) (jd:=.int jj) (st:=.lst i0) (nd:=N.d) (td:=tD (tieT N)) (ld:=.tup ((clT N.sw (tieT (N.cutN r.toNat))).map rowD)) w6 w7 S13
  exact ⟨_,S14,l65_run1 _ e1 rfl e3 em e4 e5 e6 e7 e8 e9 i2 q rfl e10 e11 e12 e13 e14 e15,⟨_,_,_,_,_,_,_,rfl⟩⟩
theorem law65_run (c:CLL) {sc:D}{S S3:Store}{q:Int}{len:Nat}{ρ:Env1} (hsc:fLen [sc] S=.ok (.int len) S) (hq:(if (if (6:Int)<(len:Int) then 6 else (len:Int))>1 then (if (6:Int)<(len:Int) then 6 else (len:Int)) else 1)=q) (f2:-4611686018427387904≤q∧q<4611686018427387904) (e2:loopS [] (gN 1) (law_v26_l1 c) (upD 0 q.toNat) [some sc,none,none,none,none,none,none,none] S=.nx ρ S3) :
  b_law_v26 c [some sc,none,none,none,none,none,none,none] S=.rt (.bl true) S3:=by
 simp [b_law_v26,hsc,hq,f2,e2]
theorem law65 (h:Hs_law_v26 cl) (H:HL65 cl) (n:Nat) (ns:List Int):∃ S',cl (n+8) "law" [.rol (ns.map D.int)] []=.ok (.bl true) S':=by
 rw [show n+8=(n+7)+1 from rfl,h]
 generalize hsc:D.rol (ns.map D.int)=sc
 have hm:∃ q:Int,(if (if (6:Int)<(ns.length:Int) then 6 else (ns.length:Int))>1 then (if (6:Int)<(ns.length:Int) then 6 else (ns.length:Int)) else 1)=q∧0≤q∧q≤6:=⟨_,rfl,by split <;> (try split) <;> omega,by split <;> (try split) <;> omega⟩
 obtain ⟨q,hq,q0,q6⟩:=hm
 obtain ⟨ρ',S3,e3,_⟩:=loop_inv (w:=[]) (g:=gN 1) (b:=law_v26_l1 (cl (n+7))) (items:=upD 0 q.toNat) (fun j ρ S=>E8 sc ρ) (ρ:=[some sc,none,none,none,none,none,none,none]) (S:=[])
  (fun j ρ S hp=>okW_nil _) ⟨_,_,_,_,_,_,_,rfl⟩
  (fun j d ρ S hd hp=>by
   obtain ⟨w1,w2,w3,w4,w5,w6,w7,rfl⟩:=hp
   rw [upD_get] at hd
   obtain ⟨hj,rfl⟩:=hd
   obtain ⟨ρ2,S',e,p⟩:=row65 H n ns hsc (0+(j:Int)) (by omega) S w2 w3 w4 w5 w6 w7
   exact ⟨_,_,rfl,_,S',.inl e,p⟩)
 exact ⟨S3,run_rt rfl (law65_run _ (by rw [← hsc,fLen_rol,List.length_map]) hq (by omega) e3)⟩
end My
set_option maxHeartbeats 4000000
namespace My
open PySem L2
noncomputable def tbl:Tbl:=[(("is_whole":Str),(1,1,b_is_whole)),
 (("is_bit":Str),(1,1,b_is_bit)),
 (("settings":Str),(1,3,b_settings)),
 (("is_shut":Str),(2,2,b_is_shut)),
 (("places_from":Str),(2,5,b_places_from)),
 (("joins":Str),(1,1,b_joins)),
 (("shut_contacts":Str),(2,2,b_shut_contacts)),
 (("lets":Str),(2,2,b_lets)),
 (("is_function":Str),(2,2,b_is_function)),
 (("function_of":Str),(1,1,b_function_of)),
 (("switches_of":Str),(1,1,b_switches_of)),
 (("where_both":Str),(2,2,b_where_both)),
 (("where_either":Str),(2,2,b_where_either)),
 (("is_row":Str),(3,3,b_is_row)),
 (("same_both_ways":Str),(1,3,b_same_both_ways)),
 (("is_table":Str),(2,2,b_is_table)),
 (("tied":Str),(3,5,b_tied)),
 (("tied_row":Str),(2,2,b_tied_row)),
 (("table_of":Str),(1,1,b_table_of)),
 (("row_without":Str),(3,6,b_row_without)),
 (("taken_out":Str),(2,2,b_taken_out)),
 (("follows":Str),(2,2,b_follows)),
 (("is_taking":Str),(2,3,b_is_taking)),
 (("left_at_last":Str),(1,2,b_left_at_last)),
 (("through_some_place":Str),(2,5,b_through_some_place)),
 (("row_through":Str),(2,2,b_row_through)),
 (("come_to":Str),(2,3,b_come_to)),
 (("closed":Str),(1,3,b_closed)),
 (("refuse_no_contact":Str),(2,2,b_refuse_no_contact)),
 (("cut":Str),(2,2,b_cut)),
 (("_law_cell_at":Str),(2,2,b_law_cell_at)),
 (("_law_state":Str),(2,3,b_law_state)),
 (("_law_take":Str),(2,4,b_law_take)),
 (("_law_ends":Str),(2,5,b_law_ends)),
 (("_law_net":Str),(4,13,b_law_net)),
 (("_law_out_right":Str),(3,4,b_law_out_right)),
 (("_law_closed_right":Str),(2,5,b_law_closed_right_v2)),
 (("law":Str),(1,8,b_law_v26))]
noncomputable def top (i:Nat):Stmt:=PySem.Challenge.pw_contactnets_k65_whole_tables.main.body.getD i (.Pass ⟨0,0,0,0⟩)
theorem hk {f g:Nat→List D→M D} (h:f=g) (n:Nat):f n=g n:=congrFun h n
noncomputable abbrev s_is_whole:Stmt:=top 6
noncomputable abbrev s_is_bit:Stmt:=top 7
noncomputable abbrev s_settings:Stmt:=top 8
noncomputable abbrev s_is_shut:Stmt:=top 9
noncomputable abbrev s_places_from:Stmt:=top 10
noncomputable abbrev s_joins:Stmt:=top 11
noncomputable abbrev s_shut_contacts:Stmt:=top 12
noncomputable abbrev s_lets:Stmt:=top 13
noncomputable abbrev s_is_function:Stmt:=top 14
noncomputable abbrev s_function_of:Stmt:=top 15
noncomputable abbrev s_switches_of:Stmt:=top 16
noncomputable abbrev s_where_both:Stmt:=top 17
noncomputable abbrev s_where_either:Stmt:=top 18
noncomputable abbrev s_is_row:Stmt:=top 20
noncomputable abbrev s_same_both_ways:Stmt:=top 21
noncomputable abbrev s_is_table:Stmt:=top 22
noncomputable abbrev s_tied:Stmt:=top 23
noncomputable abbrev s_tied_row:Stmt:=top 24
noncomputable abbrev s_table_of:Stmt:=top 25
noncomputable abbrev s_row_without:Stmt:=top 26
noncomputable abbrev s_taken_out:Stmt:=top 27
noncomputable abbrev s_follows:Stmt:=top 28
noncomputable abbrev s_is_taking:Stmt:=top 29
noncomputable abbrev s_left_at_last:Stmt:=top 30
noncomputable abbrev s_through_some_place:Stmt:=top 31
noncomputable abbrev s_row_through:Stmt:=top 32
noncomputable abbrev s_come_to:Stmt:=top 33
noncomputable abbrev s_closed:Stmt:=top 34
noncomputable abbrev s_refuse_no_contact:Stmt:=top 36
noncomputable abbrev s_cut:Stmt:=top 37
noncomputable abbrev s_law_cell_at:Stmt:=top 39
noncomputable abbrev s_law_state:Stmt:=top 40
noncomputable abbrev s_law_take:Stmt:=top 41
noncomputable abbrev s_law_ends:Stmt:=top 42
noncomputable abbrev s_law_net:Stmt:=top 43
noncomputable abbrev s_law_out_right:Stmt:=top 44
noncomputable abbrev s_law_closed_right:Stmt:=top 45
noncomputable abbrev s_law:Stmt:=top 46
abbrev CKp (x:Str) (N:List Str) (st:Stmt) (b:CLL→CS):Prop:=(fun cl:CLL=>cSts (arT tbl) cl 60 ⟨N,(defScope st).names,some x⟩ (defBody st))=fun cl=>some (b cl)
theorem fk_is_whole:fnOk ["thing"] ["thing"] (defScope s_is_whole)=true:=by decide +kernel
theorem hs_is_whole:Hs_is_whole (callT tbl):=hk (by kernel_rfl)
theorem ck_is_whole:CKp "is_whole" ["thing"] s_is_whole b_is_whole:=by kernel_rfl
theorem fk_is_bit:fnOk ["thing"] ["thing"] (defScope s_is_bit)=true:=by decide +kernel
theorem hs_is_bit:Hs_is_bit (callT tbl):=hk (by kernel_rfl)
theorem ck_is_bit:CKp "is_bit" ["thing"] s_is_bit b_is_bit:=by kernel_rfl
theorem fk_settings:fnOk ["switches","told","switch"] ["switches"] (defScope s_settings)=true:=by decide +kernel
theorem hs_settings:Hs_settings (callT tbl):=hk (by kernel_rfl)
theorem ck_settings:CKp "settings" ["switches","told","switch"] s_settings b_settings:=by kernel_rfl
theorem fk_is_shut:fnOk ["contact","setting"] ["contact","setting"] (defScope s_is_shut)=true:=by decide +kernel
theorem hs_is_shut:Hs_is_shut (callT tbl):=hk (by kernel_rfl)
theorem ck_is_shut:CKp "is_shut" ["contact","setting"] s_is_shut b_is_shut:=by kernel_rfl
theorem fk_places_from:fnOk ["start","contacts","found","grown","contact"] ["start","contacts"] (defScope s_places_from)=true:=by decide +kernel
theorem hs_places_from:Hs_places_from (callT tbl):=hk (by kernel_rfl)
theorem ck_places_from:CKp "places_from" ["start","contacts","found","grown","contact"] s_places_from b_places_from:=by kernel_rfl
theorem fk_joins:fnOk ["contacts"] ["contacts"] (defScope s_joins)=true:=by decide +kernel
theorem hs_joins:Hs_joins (callT tbl):=hk (by kernel_rfl)
theorem ck_joins:CKp "joins" ["contacts"] s_joins b_joins:=by kernel_rfl
theorem fk_shut_contacts:fnOk ["net","setting"] ["net","setting"] (defScope s_shut_contacts)=true:=by decide +kernel
theorem hs_shut_contacts:Hs_shut_contacts (callT tbl):=hk (by kernel_rfl)
theorem ck_shut_contacts:CKp "shut_contacts" ["net","setting"] s_shut_contacts b_shut_contacts:=by kernel_rfl
theorem fk_lets:fnOk ["net","setting"] ["net","setting"] (defScope s_lets)=true:=by decide +kernel
theorem hs_lets:Hs_lets (callT tbl):=hk (by kernel_rfl)
theorem ck_lets:CKp "lets" ["net","setting"] s_lets b_lets:=by kernel_rfl
theorem fk_is_function:fnOk ["switches","thing"] ["switches","thing"] (defScope s_is_function)=true:=by decide +kernel
theorem hs_is_function:Hs_is_function (callT tbl):=hk (by kernel_rfl)
theorem ck_is_function:CKp "is_function" ["switches","thing"] s_is_function b_is_function:=by kernel_rfl
theorem fk_function_of:fnOk ["net"] ["net"] (defScope s_function_of)=true:=by decide +kernel
theorem hs_function_of:Hs_function_of (callT tbl):=hk (by kernel_rfl)
theorem ck_function_of:CKp "function_of" ["net"] s_function_of b_function_of:=by kernel_rfl
theorem fk_switches_of:fnOk ["function"] ["function"] (defScope s_switches_of)=true:=by decide +kernel
theorem hs_switches_of:Hs_switches_of (callT tbl):=hk (by kernel_rfl)
theorem ck_switches_of:CKp "switches_of" ["function"] s_switches_of b_switches_of:=by kernel_rfl
theorem fk_where_both:fnOk ["one","other"] ["one","other"] (defScope s_where_both)=true:=by decide +kernel
theorem hs_where_both:Hs_where_both (callT tbl):=hk (by kernel_rfl)
theorem ck_where_both:CKp "where_both" ["one","other"] s_where_both b_where_both:=by kernel_rfl
theorem fk_where_either:fnOk ["one","other"] ["one","other"] (defScope s_where_either)=true:=by decide +kernel
theorem hs_where_either:Hs_where_either (callT tbl):=hk (by kernel_rfl)
theorem ck_where_either:CKp "where_either" ["one","other"] s_where_either b_where_either:=by kernel_rfl
theorem fk_is_row:fnOk ["switches","places","thing"] ["switches","places","thing"] (defScope s_is_row)=true:=by decide +kernel
theorem hs_is_row:Hs_is_row (callT tbl):=hk (by kernel_rfl)
theorem ck_is_row:CKp "is_row" ["switches","places","thing"] s_is_row b_is_row:=by kernel_rfl
theorem fk_same_both_ways:fnOk ["rows","one","other"] ["rows"] (defScope s_same_both_ways)=true:=by decide +kernel
theorem hs_same_both_ways:Hs_same_both_ways (callT tbl):=hk (by kernel_rfl)
theorem ck_same_both_ways:CKp "same_both_ways" ["rows","one","other"] s_same_both_ways b_same_both_ways:=by kernel_rfl
theorem fk_is_table:fnOk ["switches","thing"] ["switches","thing"] (defScope s_is_table)=true:=by decide +kernel
theorem hs_is_table:Hs_is_table (callT tbl):=hk (by kernel_rfl)
theorem ck_is_table:CKp "is_table" ["switches","thing"] s_is_table b_is_table:=by kernel_rfl
theorem fk_tied:fnOk ["net","one","other","ends","contacts"] ["net","one","other"] (defScope s_tied)=true:=by decide +kernel
theorem hs_tied:Hs_tied (callT tbl):=hk (by kernel_rfl)
theorem ck_tied:CKp "tied" ["net","one","other","ends","contacts"] s_tied b_tied:=by kernel_rfl
theorem fk_tied_row:fnOk ["net","one"] ["net","one"] (defScope s_tied_row)=true:=by decide +kernel
theorem hs_tied_row:Hs_tied_row (callT tbl):=hk (by kernel_rfl)
theorem ck_tied_row:CKp "tied_row" ["net","one"] s_tied_row b_tied_row:=by kernel_rfl
theorem fk_table_of:fnOk ["net"] ["net"] (defScope s_table_of)=true:=by decide +kernel
theorem hs_table_of:Hs_table_of (callT tbl):=hk (by kernel_rfl)
theorem ck_table_of:CKp "table_of" ["net"] s_table_of b_table_of:=by kernel_rfl
theorem fk_row_without:fnOk ["table","one","place","told","other","round_about"] ["table","one","place"] (defScope s_row_without)=true:=by decide +kernel
theorem hs_row_without:Hs_row_without (callT tbl):=hk (by kernel_rfl)
theorem ck_row_without:CKp "row_without" ["table","one","place","told","other","round_about"] s_row_without b_row_without:=by kernel_rfl
theorem fk_taken_out:fnOk ["table","place"] ["table","place"] (defScope s_taken_out)=true:=by decide +kernel
theorem hs_taken_out:Hs_taken_out (callT tbl):=hk (by kernel_rfl)
theorem ck_taken_out:CKp "taken_out" ["table","place"] s_taken_out b_taken_out:=by kernel_rfl
theorem fk_follows:fnOk ["ahead","table"] ["ahead","table"] (defScope s_follows)=true:=by decide +kernel
theorem hs_follows:Hs_follows (callT tbl):=hk (by kernel_rfl)
theorem ck_follows:CKp "follows" ["ahead","table"] s_follows b_follows:=by kernel_rfl
theorem fk_is_taking:fnOk ["table","thing","switches"] ["table","thing"] (defScope s_is_taking)=true:=by decide +kernel
theorem hs_is_taking:Hs_is_taking (callT tbl):=hk (by kernel_rfl)
theorem ck_is_taking:CKp "is_taking" ["table","thing","switches"] s_is_taking b_is_taking:=by kernel_rfl
theorem fk_left_at_last:fnOk ["table","left"] ["table"] (defScope s_left_at_last)=true:=by decide +kernel
theorem hs_left_at_last:Hs_left_at_last (callT tbl):=hk (by kernel_rfl)
theorem ck_left_at_last:CKp "left_at_last" ["table","left"] s_left_at_last b_left_at_last:=by kernel_rfl
theorem fk_through_some_place:fnOk ["one_row","other_row","told","one","other"] ["one_row","other_row"] (defScope s_through_some_place)=true:=by decide +kernel
theorem hs_through_some_place:Hs_through_some_place (callT tbl):=hk (by kernel_rfl)
theorem ck_through_some_place:CKp "through_some_place" ["one_row","other_row","told","one","other"] s_through_some_place b_through_some_place:=by kernel_rfl
theorem fk_row_through:fnOk ["one_row","other"] ["one_row","other"] (defScope s_row_through)=true:=by decide +kernel
theorem hs_row_through:Hs_row_through (callT tbl):=hk (by kernel_rfl)
theorem ck_row_through:CKp "row_through" ["one_row","other"] s_row_through b_row_through:=by kernel_rfl
theorem fk_come_to:fnOk ["one","other","told"] ["one","other"] (defScope s_come_to)=true:=by decide +kernel
theorem hs_come_to:Hs_come_to (callT tbl):=hk (by kernel_rfl)
theorem ck_come_to:CKp "come_to" ["one","other","told"] s_come_to b_come_to:=by kernel_rfl
theorem fk_closed:fnOk ["table","told","further"] ["table"] (defScope s_closed)=true:=by decide +kernel
theorem hs_closed:Hs_closed (callT tbl):=hk (by kernel_rfl)
theorem ck_closed:CKp "closed" ["table","told","further"] s_closed b_closed:=by kernel_rfl
theorem fk_refuse_no_contact:fnOk ["net","number"] ["net","number"] (defScope s_refuse_no_contact)=true:=by decide +kernel
theorem hs_refuse_no_contact:Hs_refuse_no_contact (callT tbl):=hk (by kernel_rfl)
theorem ck_refuse_no_contact:CKp "refuse_no_contact" ["net","number"] s_refuse_no_contact b_refuse_no_contact:=by kernel_rfl
theorem fk_cut:fnOk ["net","number"] ["net","number"] (defScope s_cut)=true:=by decide +kernel
theorem hs_cut:Hs_cut (callT tbl):=hk (by kernel_rfl)
theorem ck_cut:CKp "cut" ["net","number"] s_cut b_cut:=by kernel_rfl
theorem fk_law_cell_at:fnOk ["_law_script","_law_k"] ["_law_script","_law_k"] (defScope s_law_cell_at)=true:=by decide +kernel
theorem hs_law_cell_at:Hs_law_cell_at (callT tbl):=hk (by kernel_rfl)
theorem ck_law_cell_at:CKp "_law_cell_at" ["_law_script","_law_k"] s_law_cell_at b_law_cell_at:=by kernel_rfl
theorem fk_law_state:fnOk ["_law_script","_law_k","_law_cell"] ["_law_script","_law_k"] (defScope s_law_state)=true:=by decide +kernel
theorem hs_law_state:Hs_law_state (callT tbl):=hk (by kernel_rfl)
theorem ck_law_state:CKp "_law_state" ["_law_script","_law_k","_law_cell"] s_law_state b_law_state:=by kernel_rfl
theorem fk_law_take:fnOk ["_law_state_here","_law_many","_law_found","_law_mixed"] ["_law_state_here","_law_many"] (defScope s_law_take)=true:=by decide +kernel
theorem hs_law_take:Hs_law_take (callT tbl):=hk (by kernel_rfl)
theorem ck_law_take:CKp "_law_take" ["_law_state_here","_law_many","_law_found","_law_mixed"] s_law_take b_law_take:=by kernel_rfl
theorem fk_law_ends:fnOk ["_law_state_here","_law_places","_law_row","_law_one","_law_other"] ["_law_state_here","_law_places"] (defScope s_law_ends)=true:=by decide +kernel
theorem hs_law_ends:Hs_law_ends (callT tbl):=hk (by kernel_rfl)
theorem ck_law_ends:CKp "_law_ends" ["_law_state_here","_law_places","_law_row","_law_one","_law_other"] s_law_ends b_law_ends:=by kernel_rfl
theorem fk_law_net:fnOk ["_law_state_here","_law_most_switches","_law_most_places","_law_most_contacts","_law_switches","_law_places","_law_rows","_law_row","_law_one","_law_other","_law_turn","_law_mixed","_law_contact"] ["_law_state_here","_law_most_switches","_law_most_places","_law_most_contacts"] (defScope s_law_net)=true:=by decide +kernel
theorem hs_law_net:Hs_law_net (callT tbl):=hk (by kernel_rfl)
theorem ck_law_net:CKp "_law_net" ["_law_state_here","_law_most_switches","_law_most_places","_law_most_contacts","_law_switches","_law_places","_law_rows","_law_row","_law_one","_law_other","_law_turn","_law_mixed","_law_contact"] s_law_net b_law_net:=by kernel_rfl
theorem fk_law_out_right:fnOk ["_law_state_here","_law_net_here","_law_table","_law_here"] ["_law_state_here","_law_net_here","_law_table"] (defScope s_law_out_right)=true:=by decide +kernel
theorem hs_law_out_right:Hs_law_out_right (callT tbl):=hk (by kernel_rfl)
theorem ck_law_out_right:CKp "_law_out_right" ["_law_state_here","_law_net_here","_law_table","_law_here"] s_law_out_right b_law_out_right:=by kernel_rfl
theorem fk_law_closed_right:fnOk ["_law_net_here","_law_table","_law_whole","_law_place","_law_left"] ["_law_net_here","_law_table"] (defScope s_law_closed_right)=true:=by decide +kernel
theorem hs_law_closed_right:Hs_law_closed_right_v2 (callT tbl):=hk (by kernel_rfl)
theorem ck_law_closed_right:CKp "_law_closed_right" ["_law_net_here","_law_table","_law_whole","_law_place","_law_left"] s_law_closed_right b_law_closed_right_v2:=by kernel_rfl
theorem fk_law:fnOk ["_law_script","_law_k","_law_state_here","_law_net_here","_law_table","_law_less","_law_row","_law_other"] ["_law_script"] (defScope s_law)=true:=by decide +kernel
theorem hs_law:Hs_law_v26 (callT tbl):=hk (by kernel_rfl)
theorem ck_law:CKp "law" ["_law_script","_law_k","_law_state_here","_law_net_here","_law_table","_law_less","_law_row","_law_other"] s_law b_law_v26:=by kernel_rfl
theorem law_true (ns:List Int) (h:ns.length≤63):∃ S',callT tbl 100 "law" [.rol (ns.map D.int)] []=.ok (.bl true) S':=law65 hs_law ⟨⟨hs_law_state,hs_law_cell_at,hs_law_take,hs_law_ends,hs_law_net⟩,⟨hs_settings,hs_is_shut,hs_places_from,hs_joins,hs_shut_contacts,hs_lets,hs_function_of⟩,⟨⟨⟨hs_settings,hs_is_whole,hs_is_bit,hs_is_function⟩,hs_is_table,hs_is_row,hs_same_both_ways,⟨hs_row_without,hs_taken_out,hs_where_both,hs_where_either,hs_is_whole⟩,hs_follows,hs_is_taking,hs_switches_of⟩,⟨hs_settings,hs_is_shut,hs_places_from,hs_joins,hs_shut_contacts,hs_lets,hs_function_of⟩,hs_left_at_last,hs_law_take,hs_law_out_right⟩,⟨⟨hs_row_without,hs_taken_out,hs_where_both,hs_where_either,hs_is_whole⟩,⟨hs_through_some_place,hs_row_through,hs_come_to,hs_closed,hs_where_both,hs_where_either,hs_same_both_ways⟩,⟨hs_settings,hs_is_shut,hs_places_from,hs_joins,hs_shut_contacts,hs_lets,hs_function_of⟩,hs_law_closed_right⟩,hs_table_of,hs_tied_row,hs_tied,hs_cut,hs_refuse_no_contact,hs_is_whole⟩ 92 ns
def DF (K:W.Frag) (n:Str) (st:Stmt):Prop:=∃ (f:Addr) (od an:Option Addr) (sl:Array (Option Value)) (oc kV dc pm cd ct:Value),W.nsIn K mainGlobals n=some (some (.ref f))∧K.lookup f=some ⟨oc,od,.func (W.fnOf n n (defArgs st) (defBody st) (defScope st) .none kV dc pm an cd ct),sl⟩∧W.codeIn K cd n=true∧W.keepIn K (.ref f)=true
theorem mkDF {K:W.Frag}{n:Str}{st:Stmt}{f:Addr}{od an:Option Addr}{sl:Array (Option Value)}{oc kV dc pm cd ct:Value} (a:W.nsIn K mainGlobals n=some (some (.ref f))) (l:K.lookup f=some ⟨oc,od,.func (W.fnOf n n (defArgs st) (defBody st) (defScope st) .none kV dc pm an cd ct),sl⟩) (c:W.codeIn K cd n=true) (k:W.keepIn K (.ref f)=true):DF K n st:=⟨f,od,an,sl,oc,kV,dc,pm,cd,ct,a,l,c,k⟩
theorem DF.in {K:W.Frag}{h:Heap}{mg:Str→Option Value}{n:Str}{st:Stmt} (d:DF K n st) (X:K.In h) (G:h.Ns mainGlobals mg):∃ (f:Addr) (kV dc pm:Value) (an:Option Addr) (cd ct:Value),mg n=some (.ref f)∧Fun K n n st f (W.fnOf n n (defArgs st) (defBody st) (defScope st) .none kV dc pm an cd ct):=by
 obtain ⟨f,od,an,sl,oc,kV,dc,pm,cd,ct,a,l,c,k⟩:=d
 exact ⟨f,kV,dc,pm,an,cd,ct,W.mg_of X G a,fun_mk l c k⟩
noncomputable def ZN (K:W.Frag):List Str→Prop
 | []=>True
 | x::r=>W.nsIn K mainGlobals x=some none∧ZN K r
theorem ZN.none {K:W.Frag}{h:Heap}{mg:Str→Option Value} (X:K.In h) (G:h.Ns mainGlobals mg):∀ {l:List Str},ZN K l→AllNone mg l
 | [],_=>True.intro
 | _::_,z=>⟨W.mg_none_of X G z.1,z.2.none X G⟩
def BP (st:Stmt) (n:Str) (ps:List Str) (kV doc pm:Value) (an:Option Addr) (cdv ct:Value) (us:List Value):Prop:=bindArgs (W.fnOf n n (defArgs st) (defBody st) (defScope st) .none kV doc pm an cdv ct) ⟨us,[]⟩=pure (ps.zip us)
def BF (st:Stmt) (n:Str) (ps:List Str):Prop:=∀ (kV doc pm:Value) (an:Option Addr) (cdv ct:Value) (us:List Value),us.length=ps.length→BP st n ps kV doc pm an cdv ct us
theorem dIn {K:W.Frag}{h:Heap}{mg:Str→Option Value}{ar:Str→Option Nat}{x:Str}{st:Stmt}{N ps:List Str}{fuel np nN:Nat}{b:CLL→CS} (d:DF K x st) (X:K.In h) (G:h.Ns mainGlobals mg) (hb:BF st x ps) (hs:fnOk N ps (defScope st)=true)
  (hc:(fun cl:CLL=>cSts ar cl fuel ⟨N,(defScope st).names,some x⟩ (defBody st))=fun cl=>some (b cl)) (h1:ps.length=np:=by rfl) (h2:N.length=nN:=by rfl):DefIn K mg ar x (np,nN,b):=by
 obtain ⟨_,_,_,_,_,_,_,m,F⟩:=d.in X G
 exact def_in F m (F.binds (ps:=ps) hb) hs hc h1 h2
theorem usC {n:Nat}:∀ us:List Value,us.length=n+1→∃ a r,us=a::r∧r.length=n
 | a::r,h=>⟨a,r,rfl,Nat.succ.inj h⟩
theorem us0 {P:List Value→Prop} (h:P []) (us:List Value) (hl:us.length=0):P us:=by
 rw [List.eq_nil_of_length_eq_zero hl]; exact h
theorem us1 {P:List Value→Prop} (h:∀ a0:Value,P [a0]) (us:List Value) (hl:us.length=1):P us:=by
 obtain ⟨a,r,rfl,hq⟩:=usC us hl
 exact us0 (P:=fun r=>P (a::r)) (h a) r hq
theorem us2 {P:List Value→Prop} (h:∀ a0 a1:Value,P [a0,a1]) (us:List Value) (hl:us.length=2):P us:=by
 obtain ⟨a,r,rfl,hq⟩:=usC us hl
 exact us1 (P:=fun r=>P (a::r)) (h a) r hq
theorem us3 {P:List Value→Prop} (h:∀ a0 a1 a2:Value,P [a0,a1,a2]) (us:List Value) (hl:us.length=3):P us:=by
 obtain ⟨a,r,rfl,hq⟩:=usC us hl
 exact us2 (P:=fun r=>P (a::r)) (h a) r hq
theorem us4 {P:List Value→Prop} (h:∀ a0 a1 a2 a3:Value,P [a0,a1,a2,a3]) (us:List Value) (hl:us.length=4):P us:=by
 obtain ⟨a,r,rfl,hq⟩:=usC us hl
 exact us3 (P:=fun r=>P (a::r)) (h a) r hq
theorem bf_is_whole:BF s_is_whole "is_whole" ["thing"]:=fun kV doc pm an cdv ct=>us1 (P:=BP s_is_whole "is_whole" ["thing"] kV doc pm an cdv ct) (fun _=>rfl)
theorem bf_is_bit:BF s_is_bit "is_bit" ["thing"]:=fun kV doc pm an cdv ct=>us1 (P:=BP s_is_bit "is_bit" ["thing"] kV doc pm an cdv ct) (fun _=>rfl)
theorem bf_settings:BF s_settings "settings" ["switches"]:=fun kV doc pm an cdv ct=>us1 (P:=BP s_settings "settings" ["switches"] kV doc pm an cdv ct) (fun _=>rfl)
theorem bf_is_shut:BF s_is_shut "is_shut" ["contact","setting"]:=fun kV doc pm an cdv ct=>us2 (P:=BP s_is_shut "is_shut" ["contact","setting"] kV doc pm an cdv ct) (fun _ _=>rfl)
theorem bf_places_from:BF s_places_from "places_from" ["start","contacts"]:=fun kV doc pm an cdv ct=>us2 (P:=BP s_places_from "places_from" ["start","contacts"] kV doc pm an cdv ct) (fun _ _=>rfl)
theorem bf_joins:BF s_joins "joins" ["contacts"]:=fun kV doc pm an cdv ct=>us1 (P:=BP s_joins "joins" ["contacts"] kV doc pm an cdv ct) (fun _=>rfl)
theorem bf_shut_contacts:BF s_shut_contacts "shut_contacts" ["net","setting"]:=fun kV doc pm an cdv ct=>us2 (P:=BP s_shut_contacts "shut_contacts" ["net","setting"] kV doc pm an cdv ct) (fun _ _=>rfl)
theorem bf_lets:BF s_lets "lets" ["net","setting"]:=fun kV doc pm an cdv ct=>us2 (P:=BP s_lets "lets" ["net","setting"] kV doc pm an cdv ct) (fun _ _=>rfl)
theorem bf_is_function:BF s_is_function "is_function" ["switches","thing"]:=fun kV doc pm an cdv ct=>us2 (P:=BP s_is_function "is_function" ["switches","thing"] kV doc pm an cdv ct) (fun _ _=>rfl)
theorem bf_function_of:BF s_function_of "function_of" ["net"]:=fun kV doc pm an cdv ct=>us1 (P:=BP s_function_of "function_of" ["net"] kV doc pm an cdv ct) (fun _=>rfl)
theorem bf_switches_of:BF s_switches_of "switches_of" ["function"]:=fun kV doc pm an cdv ct=>us1 (P:=BP s_switches_of "switches_of" ["function"] kV doc pm an cdv ct) (fun _=>rfl)
theorem bf_where_both:BF s_where_both "where_both" ["one","other"]:=fun kV doc pm an cdv ct=>us2 (P:=BP s_where_both "where_both" ["one","other"] kV doc pm an cdv ct) (fun _ _=>rfl)
theorem bf_where_either:BF s_where_either "where_either" ["one","other"]:=fun kV doc pm an cdv ct=>us2 (P:=BP s_where_either "where_either" ["one","other"] kV doc pm an cdv ct) (fun _ _=>rfl)
theorem bf_is_row:BF s_is_row "is_row" ["switches","places","thing"]:=fun kV doc pm an cdv ct=>us3 (P:=BP s_is_row "is_row" ["switches","places","thing"] kV doc pm an cdv ct) (fun _ _ _=>rfl)
theorem bf_same_both_ways:BF s_same_both_ways "same_both_ways" ["rows"]:=fun kV doc pm an cdv ct=>us1 (P:=BP s_same_both_ways "same_both_ways" ["rows"] kV doc pm an cdv ct) (fun _=>rfl)
theorem bf_is_table:BF s_is_table "is_table" ["switches","thing"]:=fun kV doc pm an cdv ct=>us2 (P:=BP s_is_table "is_table" ["switches","thing"] kV doc pm an cdv ct) (fun _ _=>rfl)
theorem bf_tied:BF s_tied "tied" ["net","one","other"]:=fun kV doc pm an cdv ct=>us3 (P:=BP s_tied "tied" ["net","one","other"] kV doc pm an cdv ct) (fun _ _ _=>rfl)
theorem bf_tied_row:BF s_tied_row "tied_row" ["net","one"]:=fun kV doc pm an cdv ct=>us2 (P:=BP s_tied_row "tied_row" ["net","one"] kV doc pm an cdv ct) (fun _ _=>rfl)
theorem bf_table_of:BF s_table_of "table_of" ["net"]:=fun kV doc pm an cdv ct=>us1 (P:=BP s_table_of "table_of" ["net"] kV doc pm an cdv ct) (fun _=>rfl)
theorem bf_row_without:BF s_row_without "row_without" ["table","one","place"]:=fun kV doc pm an cdv ct=>us3 (P:=BP s_row_without "row_without" ["table","one","place"] kV doc pm an cdv ct) (fun _ _ _=>rfl)
theorem bf_taken_out:BF s_taken_out "taken_out" ["table","place"]:=fun kV doc pm an cdv ct=>us2 (P:=BP s_taken_out "taken_out" ["table","place"] kV doc pm an cdv ct) (fun _ _=>rfl)
theorem bf_follows:BF s_follows "follows" ["ahead","table"]:=fun kV doc pm an cdv ct=>us2 (P:=BP s_follows "follows" ["ahead","table"] kV doc pm an cdv ct) (fun _ _=>rfl)
theorem bf_is_taking:BF s_is_taking "is_taking" ["table","thing"]:=fun kV doc pm an cdv ct=>us2 (P:=BP s_is_taking "is_taking" ["table","thing"] kV doc pm an cdv ct) (fun _ _=>rfl)
theorem bf_left_at_last:BF s_left_at_last "left_at_last" ["table"]:=fun kV doc pm an cdv ct=>us1 (P:=BP s_left_at_last "left_at_last" ["table"] kV doc pm an cdv ct) (fun _=>rfl)
theorem bf_through_some_place:BF s_through_some_place "through_some_place" ["one_row","other_row"]:=fun kV doc pm an cdv ct=>us2 (P:=BP s_through_some_place "through_some_place" ["one_row","other_row"] kV doc pm an cdv ct) (fun _ _=>rfl)
theorem bf_row_through:BF s_row_through "row_through" ["one_row","other"]:=fun kV doc pm an cdv ct=>us2 (P:=BP s_row_through "row_through" ["one_row","other"] kV doc pm an cdv ct) (fun _ _=>rfl)
theorem bf_come_to:BF s_come_to "come_to" ["one","other"]:=fun kV doc pm an cdv ct=>us2 (P:=BP s_come_to "come_to" ["one","other"] kV doc pm an cdv ct) (fun _ _=>rfl)
theorem bf_closed:BF s_closed "closed" ["table"]:=fun kV doc pm an cdv ct=>us1 (P:=BP s_closed "closed" ["table"] kV doc pm an cdv ct) (fun _=>rfl)
theorem bf_refuse_no_contact:BF s_refuse_no_contact "refuse_no_contact" ["net","number"]:=fun kV doc pm an cdv ct=>us2 (P:=BP s_refuse_no_contact "refuse_no_contact" ["net","number"] kV doc pm an cdv ct) (fun _ _=>rfl)
theorem bf_cut:BF s_cut "cut" ["net","number"]:=fun kV doc pm an cdv ct=>us2 (P:=BP s_cut "cut" ["net","number"] kV doc pm an cdv ct) (fun _ _=>rfl)
theorem bf_law_cell_at:BF s_law_cell_at "_law_cell_at" ["_law_script","_law_k"]:=fun kV doc pm an cdv ct=>us2 (P:=BP s_law_cell_at "_law_cell_at" ["_law_script","_law_k"] kV doc pm an cdv ct) (fun _ _=>rfl)
theorem bf_law_state:BF s_law_state "_law_state" ["_law_script","_law_k"]:=fun kV doc pm an cdv ct=>us2 (P:=BP s_law_state "_law_state" ["_law_script","_law_k"] kV doc pm an cdv ct) (fun _ _=>rfl)
theorem bf_law_take:BF s_law_take "_law_take" ["_law_state_here","_law_many"]:=fun kV doc pm an cdv ct=>us2 (P:=BP s_law_take "_law_take" ["_law_state_here","_law_many"] kV doc pm an cdv ct) (fun _ _=>rfl)
theorem bf_law_ends:BF s_law_ends "_law_ends" ["_law_state_here","_law_places"]:=fun kV doc pm an cdv ct=>us2 (P:=BP s_law_ends "_law_ends" ["_law_state_here","_law_places"] kV doc pm an cdv ct) (fun _ _=>rfl)
theorem bf_law_net:BF s_law_net "_law_net" ["_law_state_here","_law_most_switches","_law_most_places","_law_most_contacts"]:=fun kV doc pm an cdv ct=>us4 (P:=BP s_law_net "_law_net" ["_law_state_here","_law_most_switches","_law_most_places","_law_most_contacts"] kV doc pm an cdv ct) (fun _ _ _ _=>rfl)
theorem bf_law_out_right:BF s_law_out_right "_law_out_right" ["_law_state_here","_law_net_here","_law_table"]:=fun kV doc pm an cdv ct=>us3 (P:=BP s_law_out_right "_law_out_right" ["_law_state_here","_law_net_here","_law_table"] kV doc pm an cdv ct) (fun _ _ _=>rfl)
theorem bf_law_closed_right:BF s_law_closed_right "_law_closed_right" ["_law_net_here","_law_table"]:=fun kV doc pm an cdv ct=>us2 (P:=BP s_law_closed_right "_law_closed_right" ["_law_net_here","_law_table"] kV doc pm an cdv ct) (fun _ _=>rfl)
theorem bf_law:BF s_law "law" ["_law_script"]:=fun kV doc pm an cdv ct=>us1 (P:=BP s_law "law" ["_law_script"] kV doc pm an cdv ct) (fun _=>rfl)
theorem all_mk {l:W.OpenLaw}{w:World}{K:W.Frag}{h:Heap}{mg:Str→Option Value}{fa:Addr} (X:K.In h) (G:h.Ns mainGlobals mg) (hfa:mg "law"=some (.ref fa))
  (d1:DF K "is_whole" s_is_whole) (d2:DF K "is_bit" s_is_bit) (d3:DF K "settings" s_settings) (d4:DF K "is_shut" s_is_shut) (d5:DF K "places_from" s_places_from) (d6:DF K "joins" s_joins) (d7:DF K "shut_contacts" s_shut_contacts) (d8:DF K "lets" s_lets) (d9:DF K "is_function" s_is_function) (d10:DF K "function_of" s_function_of) (d11:DF K "switches_of" s_switches_of) (d12:DF K "where_both" s_where_both) (d13:DF K "where_either" s_where_either) (d14:DF K "is_row" s_is_row) (d15:DF K "same_both_ways" s_same_both_ways) (d16:DF K "is_table" s_is_table) (d17:DF K "tied" s_tied) (d18:DF K "tied_row" s_tied_row) (d19:DF K "table_of" s_table_of) (d20:DF K "row_without" s_row_without) (d21:DF K "taken_out" s_taken_out) (d22:DF K "follows" s_follows) (d23:DF K "is_taking" s_is_taking) (d24:DF K "left_at_last" s_left_at_last) (d25:DF K "through_some_place" s_through_some_place) (d26:DF K "row_through" s_row_through) (d27:DF K "come_to" s_come_to) (d28:DF K "closed" s_closed) (d29:DF K "refuse_no_contact" s_refuse_no_contact) (d30:DF K "cut" s_cut) (d31:DF K "_law_cell_at" s_law_cell_at) (d32:DF K "_law_state" s_law_state) (d33:DF K "_law_take" s_law_take) (d34:DF K "_law_ends" s_law_ends) (d35:DF K "_law_net" s_law_net) (d36:DF K "_law_out_right" s_law_out_right) (d37:DF K "_law_closed_right" s_law_closed_right) (d38:DF K "law" s_law) (z:ZN K bltL) :
  ∃ fd:FuncData,(∀ (s:Shared) (v:Value),BindsTo s fd ⟨[v],[]⟩ [("_law_script",v)])∧∀ base:Heap,K.In base→base.Ns mainGlobals mg→FnOk l.prog w K mg base CX0 100 fa fd ["_law_script"] (spL K):=by
 obtain ⟨_,kV,dc,pm,an,cd,ct,m,F⟩:=d38.in X G
 have e:=hfa.symm.trans m
 cases e
 have A:AllIn K mg (arT tbl) tbl:=And.intro (dIn d1 X G bf_is_whole fk_is_whole ck_is_whole) (And.intro (dIn d2 X G bf_is_bit fk_is_bit ck_is_bit) (And.intro (dIn d3 X G bf_settings fk_settings ck_settings) (And.intro (dIn d4 X G bf_is_shut fk_is_shut ck_is_shut) (And.intro (dIn d5 X G bf_places_from fk_places_from ck_places_from) (And.intro (dIn d6 X G bf_joins fk_joins ck_joins) (And.intro (dIn d7 X G bf_shut_contacts fk_shut_contacts ck_shut_contacts) (And.intro (dIn d8 X G bf_lets fk_lets ck_lets) (And.intro (dIn d9 X G bf_is_function fk_is_function ck_is_function) (And.intro (dIn d10 X G bf_function_of fk_function_of ck_function_of) (And.intro (dIn d11 X G bf_switches_of fk_switches_of ck_switches_of) (And.intro (dIn d12 X G bf_where_both fk_where_both ck_where_both) (And.intro (dIn d13 X G bf_where_either fk_where_either ck_where_either) (And.intro (dIn d14 X G bf_is_row fk_is_row ck_is_row) (And.intro (dIn d15 X G bf_same_both_ways fk_same_both_ways ck_same_both_ways) (And.intro (dIn d16 X G bf_is_table fk_is_table ck_is_table) (And.intro (dIn d17 X G bf_tied fk_tied ck_tied) (And.intro (dIn d18 X G bf_tied_row fk_tied_row ck_tied_row) (And.intro (dIn d19 X G bf_table_of fk_table_of ck_table_of) (And.intro (dIn d20 X G bf_row_without fk_row_without ck_row_without) (And.intro (dIn d21 X G bf_taken_out fk_taken_out ck_taken_out) (And.intro (dIn d22 X G bf_follows fk_follows ck_follows) (And.intro (dIn d23 X G bf_is_taking fk_is_taking ck_is_taking) (And.intro (dIn d24 X G bf_left_at_last fk_left_at_last ck_left_at_last) (And.intro (dIn d25 X G bf_through_some_place fk_through_some_place ck_through_some_place) (And.intro (dIn d26 X G bf_row_through fk_row_through ck_row_through) (And.intro (dIn d27 X G bf_come_to fk_come_to ck_come_to) (And.intro (dIn d28 X G bf_closed fk_closed ck_closed) (And.intro (dIn d29 X G bf_refuse_no_contact fk_refuse_no_contact ck_refuse_no_contact) (And.intro (dIn d30 X G bf_cut fk_cut ck_cut) (And.intro (dIn d31 X G bf_law_cell_at fk_law_cell_at ck_law_cell_at) (And.intro (dIn d32 X G bf_law_state fk_law_state ck_law_state) (And.intro (dIn d33 X G bf_law_take fk_law_take ck_law_take) (And.intro (dIn d34 X G bf_law_ends fk_law_ends ck_law_ends) (And.intro (dIn d35 X G bf_law_net fk_law_net ck_law_net) (And.intro (dIn d36 X G bf_law_out_right fk_law_out_right ck_law_out_right) (And.intro (dIn d37 X G bf_law_closed_right fk_law_closed_right ck_law_closed_right) (And.intro (dIn d38 X G bf_law fk_law ck_law) (True.intro))))))))))))))))))))))))))))))))))))))
 refine ⟨W.fnOf "law" "law" (defArgs s_law) (defBody s_law) (defScope s_law) .none kV dc pm an cd ct,fun s v=>.of_eq rfl,fun base _ _=>?_⟩
 exact law_ok (L:=99) (fun x p e=>A.look x p e) (fun y hy _=>(z.none X G).mem y hy) (by kernel_rfl) F fk_law rfl (fun cl=>congrFun ck_law cl) (fun ns h=>law_true ns h)
end My
open PySem PySem.W PyProof.Rows
theorem PySem.W.Fast.tw11605409743110340221:True:=trivial
theorem PySem.W.Fast.tw10635353947063625300:True:=trivial
theorem PySem.W.Fast.tw503383714872161563:True:=trivial
theorem PySem.W.Fast.tw1816527818464285693:True:=trivial
theorem PySem.W.Fast.tw140014791584812761:True:=trivial
theorem PySem.W.Fast.tw11901365206441094407:True:=trivial
theorem PySem.W.Fast.tw920068176666719974:True:=trivial
theorem PySem.W.Fast.tw15970709080284494835:True:=trivial
theorem PySem.W.Fast.tw4775479659462497824:True:=trivial
theorem PySem.W.Fast.tw8629745353631986401:True:=trivial
theorem PySem.W.Fast.tw4956942055676800275:True:=trivial
theorem PySem.W.Fast.tw14594299312821895671:True:=trivial
theorem PySem.W.Fast.tw10130507286851955428:True:=trivial
theorem PySem.W.Fast.tw7584993488150156395:True:=trivial
theorem PySem.W.Fast.tw5473689903385300025:True:=trivial
theorem PySem.W.Fast.tw2204162465373194518:True:=trivial
theorem PySem.W.Fast.tw4157399811418569523:True:=trivial
theorem PySem.W.Fast.tw16911203818248888588:True:=trivial
theorem PySem.W.Fast.tw761893098049999437:True:=trivial
theorem PySem.W.Fast.tw12458438277439776557:True:=trivial
theorem PySem.W.Fast.tw10550401655879406549:True:=trivial
theorem PySem.W.Fast.tw7360452347156933819:True:=trivial
theorem PySem.W.Fast.tw11089431619957124911:True:=trivial
theorem PySem.W.Fast.tw10288552732203850212:True:=trivial
theorem PySem.W.Fast.tw13558856516090276536:True:=trivial
theorem PySem.W.Fast.tw9490273501180841251:True:=trivial
theorem PySem.W.Fast.tw1274425724723937848:True:=trivial
theorem PySem.W.Fast.tw10816309069608890171:True:=trivial
theorem PySem.W.Fast.tw12834727604690354834:True:=trivial
theorem PySem.W.Fast.tw16272959119926200251:True:=trivial
theorem PySem.W.Fast.tw14858528969239149812:True:=trivial
theorem PySem.W.Fast.tw5318054734365318608:True:=trivial
theorem PySem.W.Fast.tw11055680852027606859:True:=trivial
theorem PySem.W.Fast.tw3186863027902160662:True:=trivial
theorem PySem.W.Fast.tw163357385230845141:True:=trivial
theorem PySem.W.Fast.tw5718014967450610133:True:=trivial
theorem PySem.W.Fast.tw1471151357921197507:True:=trivial
set_option maxRecDepth 100000 in
set_option maxHeartbeats 0 in
theorem PySem.Challenge.cw_contactnets_k65_whole_tables_holds : PySem.Challenge.rw_contactnets_k65_whole_tables.Holds := by
 w_on; o_law; k_head; (case hw=>w_witness2)
 k_fill
 refine L2.walk_ev (L:=100) (l:=PySem.Challenge.rw_contactnets_k65_whole_tables) rfl rfl ⟨rfl,by decide,by decide,rfl⟩ (fun w h Y=>PySem.W.kIn_of Y) ?F
 case F =>
  intro w mg fa h KX G hmg
  refine' My.all_mk KX G hmg (My.mkDF ?a1 ?l1 ?c1 ?k1) (My.mkDF ?a2 ?l2 ?c2 ?k2) (My.mkDF ?a3 ?l3 ?c3 ?k3) (My.mkDF ?a4 ?l4 ?c4 ?k4) (My.mkDF ?a5 ?l5 ?c5 ?k5) (My.mkDF ?a6 ?l6 ?c6 ?k6) (My.mkDF ?a7 ?l7 ?c7 ?k7) (My.mkDF ?a8 ?l8 ?c8 ?k8) (My.mkDF ?a9 ?l9 ?c9 ?k9) (My.mkDF ?a10 ?l10 ?c10 ?k10) (My.mkDF ?a11 ?l11 ?c11 ?k11) (My.mkDF ?a12 ?l12 ?c12 ?k12) (My.mkDF ?a13 ?l13 ?c13 ?k13) (My.mkDF ?a14 ?l14 ?c14 ?k14) (My.mkDF ?a15 ?l15 ?c15 ?k15) (My.mkDF ?a16 ?l16 ?c16 ?k16) (My.mkDF ?a17 ?l17 ?c17 ?k17) (My.mkDF ?a18 ?l18 ?c18 ?k18) (My.mkDF ?a19 ?l19 ?c19 ?k19) (My.mkDF ?a20 ?l20 ?c20 ?k20) (My.mkDF ?a21 ?l21 ?c21 ?k21) (My.mkDF ?a22 ?l22 ?c22 ?k22) (My.mkDF ?a23 ?l23 ?c23 ?k23) (My.mkDF ?a24 ?l24 ?c24 ?k24) (My.mkDF ?a25 ?l25 ?c25 ?k25) (My.mkDF ?a26 ?l26 ?c26 ?k26) (My.mkDF ?a27 ?l27 ?c27 ?k27) (My.mkDF ?a28 ?l28 ?c28 ?k28) (My.mkDF ?a29 ?l29 ?c29 ?k29) (My.mkDF ?a30 ?l30 ?c30 ?k30) (My.mkDF ?a31 ?l31 ?c31 ?k31) (My.mkDF ?a32 ?l32 ?c32 ?k32) (My.mkDF ?a33 ?l33 ?c33 ?k33) (My.mkDF ?a34 ?l34 ?c34 ?k34) (My.mkDF ?a35 ?l35 ?c35 ?k35) (My.mkDF ?a36 ?l36 ?c36 ?k36) (My.mkDF ?a37 ?l37 ?c37 ?k37) (My.mkDF ?a38 ?l38 ?c38 ?k38) ⟨?z1,?z2,?z3,?z4,?z5,?z6,?z7,?z8,?z9,?z10,?z11,?z12,?z13,?z14,?z15,?z16,?z17,?z18,?z19,?z20,True.intro⟩
  case a1=>k_is
  case l1=>k_is
  case c1=>k_is
  case k1=>k_is
  case a2=>k_is
  case l2=>k_is
  case c2=>k_is
  case k2=>k_is
  case a3=>k_is
  case l3=>k_is
  case c3=>k_is
  case k3=>k_is
  case a4=>k_is
  case l4=>k_is
  case c4=>k_is
  case k4=>k_is
  case a5=>k_is
  case l5=>k_is
  case c5=>k_is
  case k5=>k_is
  case a6=>k_is
  case l6=>k_is
  case c6=>k_is
  case k6=>k_is
  case a7=>k_is
  case l7=>k_is
  case c7=>k_is
  case k7=>k_is
  case a8=>k_is
  case l8=>k_is
  case c8=>k_is
  case k8=>k_is
  case a9=>k_is
  case l9=>k_is
  case c9=>k_is
  case k9=>k_is
  case a10=>k_is
  case l10=>k_is
  case c10=>k_is
  case k10=>k_is
  case a11=>k_is
  case l11=>k_is
  case c11=>k_is
  case k11=>k_is
  case a12=>k_is
  case l12=>k_is
  case c12=>k_is
  case k12=>k_is
  case a13=>k_is
  case l13=>k_is
  case c13=>k_is
  case k13=>k_is
  case a14=>k_is
  case l14=>k_is
  case c14=>k_is
  case k14=>k_is
  case a15=>k_is
  case l15=>k_is
  case c15=>k_is
  case k15=>k_is
  case a16=>k_is
  case l16=>k_is
  case c16=>k_is
  case k16=>k_is
  case a17=>k_is
  case l17=>k_is
  case c17=>k_is
  case k17=>k_is
  case a18=>k_is
  case l18=>k_is
  case c18=>k_is
  case k18=>k_is
  case a19=>k_is
  case l19=>k_is
  case c19=>k_is
  case k19=>k_is
  case a20=>k_is
  case l20=>k_is
  case c20=>k_is
  case k20=>k_is
  case a21=>k_is
  case l21=>k_is
  case c21=>k_is
  case k21=>k_is
  case a22=>k_is
  case l22=>k_is
  case c22=>k_is
  case k22=>k_is
  case a23=>k_is
  case l23=>k_is
  case c23=>k_is
  case k23=>k_is
  case a24=>k_is
  case l24=>k_is
  case c24=>k_is
  case k24=>k_is
  case a25=>k_is
  case l25=>k_is
  case c25=>k_is
  case k25=>k_is
  case a26=>k_is
  case l26=>k_is
  case c26=>k_is
  case k26=>k_is
  case a27=>k_is
  case l27=>k_is
  case c27=>k_is
  case k27=>k_is
  case a28=>k_is
  case l28=>k_is
  case c28=>k_is
  case k28=>k_is
  case a29=>k_is
  case l29=>k_is
  case c29=>k_is
  case k29=>k_is
  case a30=>k_is
  case l30=>k_is
  case c30=>k_is
  case k30=>k_is
  case a31=>k_is
  case l31=>k_is
  case c31=>k_is
  case k31=>k_is
  case a32=>k_is
  case l32=>k_is
  case c32=>k_is
  case k32=>k_is
  case a33=>k_is
  case l33=>k_is
  case c33=>k_is
  case k33=>k_is
  case a34=>k_is
  case l34=>k_is
  case c34=>k_is
  case k34=>k_is
  case a35=>k_is
  case l35=>k_is
  case c35=>k_is
  case k35=>k_is
  case a36=>k_is
  case l36=>k_is
  case c36=>k_is
  case k36=>k_is
  case a37=>k_is
  case l37=>k_is
  case c37=>k_is
  case k37=>k_is
  case a38=>k_is
  case l38=>k_is
  case c38=>k_is
  case k38=>k_is
  case z1=>k_is
  case z2=>k_is
  case z3=>k_is
  case z4=>k_is
  case z5=>k_is
  case z6=>k_is
  case z7=>k_is
  case z8=>k_is
  case z9=>k_is
  case z10=>k_is
  case z11=>k_is
  case z12=>k_is
  case z13=>k_is
  case z14=>k_is
  case z15=>k_is
  case z16=>k_is
  case z17=>k_is
  case z18=>k_is
  case z19=>k_is
  case z20=>k_is
