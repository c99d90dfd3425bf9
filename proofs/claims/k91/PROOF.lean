import PyProof.Rows.All
import Wide.All
import OpenK.AllK
import Wide.FinOn
import Lean
import PyProof.EqAt
import PyProof.EqKinds
import PyProof.TupleCall
import PyProof.NeKinds
import PyProof.EnumMake
import PyProof.Draws
import PyProof.P3Eq
import PyProof.NeData
import PyProof.ReprRoads
import PyProof.CallFns
import PyProof.SliceSyntax
import PyProof.AutoIntG2
import PyProof.SumWalk
import PyProof.ConsumeWalk
import PyProof.Rows.TupIter
import PyProof.DictRoadsH
import PyProof.DictWalks
import KE.KDictList
import KE.KNest
import PySem.Challenge.RW_contactnets_k91_texts_written_and_read
set_option Elab.async false
set_option linter.all false
set_option genSizeOf false
set_option maxRecDepth 100000
set_option maxHeartbeats 1000000
namespace L2
open PySem PySem.Spec PyProof.Rows
noncomputable abbrev Key:=Sum Int Str
noncomputable def keyIs:Key→Value→Bool
 | .inl k,v=>Value.isInt k v
 | .inr x,v=>Value.isStrOf x v
noncomputable def keyH (w:World):Key→Int
 | .inl k=>hashInt k
 | .inr x=>hashStr w x
theorem keyIs_shape:∀ {k:Key}{v:Value},keyIs k v=true→(∃ i t,k=Sum.inl i∧v=Value.int i t)∨(∃ x t,k=Sum.inr x∧v=Value.str x t)
 | .inl i,v,h=>by
  obtain ⟨t,e⟩:=Value.isInt_shape (k:=i) (v:=v) h
  exact .inl ⟨i,t,rfl,e⟩
 | .inr x,v,h=>by
  obtain ⟨t,e⟩:=Value.isStrOf_shape (x:=x) (v:=v) h
  exact .inr ⟨x,t,rfl,e⟩
theorem keyIs_int (i:Int) (t:Tok):keyIs (.inl i) (.int i t)=true:=by simp [keyIs,Value.isInt]
theorem keyIs_str (x:Str) (t:Tok):keyIs (.inr x) (.str x t)=true:=by simp [keyIs,Value.isStrOf]
theorem key_ll (a b:Int):decide ((Sum.inl a:Key)=Sum.inl b)=(a == b):=by
 by_cases e:a=b
 ·subst e; simp
 ·have h:¬ (Sum.inl a:Key)=Sum.inl b:=fun q=>e (Sum.inl.inj q)
  rw [decide_eq_false h]
  exact (beq_eq_false_iff_ne.mpr e).symm
theorem key_rr (a b:Str):decide ((Sum.inr a:Key)=Sum.inr b)=decide (a=b):=by
 by_cases e:a=b
 ·subst e; simp
 ·have h:¬ (Sum.inr a:Key)=Sum.inr b:=fun q=>e (Sum.inr.inj q)
  rw [decide_eq_false h,decide_eq_false e]
theorem key_lr (a:Int) (b:Str):decide ((Sum.inl a:Key)=Sum.inr b)=false:=decide_eq_false (fun q=>nomatch q)
theorem key_rl (a:Str) (b:Int):decide ((Sum.inr a:Key)=Sum.inl b)=false:=decide_eq_false (fun q=>nomatch q)
noncomputable def mixKind (prog:Program) (w:World):PySem.KeyKind prog w Key where
 is:=keyIs
 hash:=keyH w
 inj:=fun v a b ha hb=>by
  rcases keyIs_shape ha with ⟨i,t,rfl,rfl⟩ | ⟨x,t,rfl,rfl⟩
  ·rcases keyIs_shape hb with ⟨j,u,rfl,e⟩ | ⟨y,u,rfl,e⟩
   ·injection e with e1 _; rw [e1]
   ·exact nomatch e
  ·rcases keyIs_shape hb with ⟨j,u,rfl,e⟩ | ⟨y,u,rfl,e⟩
   ·exact nomatch e
   ·injection e with e1 _; rw [e1]
 byValue:=fun k v h=>by
  rcases keyIs_shape h with ⟨i,t,rfl,rfl⟩ | ⟨x,t,rfl,rfl⟩ <;> rfl
 pyHash:=fun hv h=>by
  rcases keyIs_shape hv with ⟨i,t,rfl,rfl⟩ | ⟨x,t,rfl,rfl⟩
  ·exact wpAny_pyHash_int h
  ·exact wpAny_pyHash_str h
 eqBool:=fun hu hv h=>by
  rcases keyIs_shape hu with ⟨i,t,rfl,rfl⟩ | ⟨x,t,rfl,rfl⟩
  ·rcases keyIs_shape hv with ⟨j,u,rfl,rfl⟩ | ⟨y,u,rfl,rfl⟩
   ·rw [key_ll] at h; exact wpAny_eqBool_int h
   ·rw [key_lr] at h; exact SeqAt.EqAt.int_str i t y u _ _ _ _ h
  ·rcases keyIs_shape hv with ⟨j,u,rfl,rfl⟩ | ⟨y,u,rfl,rfl⟩
   ·rw [key_rl] at h; exact SeqAt.EqAt.str_int x t j u _ _ _ _ h
   ·rw [key_rr] at h; exact wpAny_eqBool_str h
 «strs»:=fun k x t v h=>by
  rcases keyIs_shape h with ⟨i,u,rfl,e⟩ | ⟨y,u,rfl,e⟩
  ·exact nomatch e
  ·injection e with e1 _
   subst e1
   cases v <;> rfl
theorem mixKind_int (prog:Program) (w:World) (i:Int) (t:Tok):(mixKind prog w).is (.inl i) (.int i t)=true:=keyIs_int i t
theorem mixKind_str (prog:Program) (w:World) (x:Str) (t:Tok):(mixKind prog w).is (.inr x) (.str x t)=true:=keyIs_str x t
inductive V where
 | non | bl (b:Bool) | int (i:Int) | str (x:Str) | byt (b:Array UInt8) | flt (b:UInt64) | ref (a:Addr) | ty (n:String)
 deriving DecidableEq
noncomputable def RelV:V→Value→Prop
 | .non,u=>u=Value.none
 | .bl b,u=>u=Value.bool b
 | .int i,u=>∃ t,u=Value.int i t
 | .str x,u=>∃ t,u=Value.str x t
 | .byt b,u=>∃ t,u=Value.bytes b t
 | .flt b,u=>∃ t,u=Value.float b t
 | .ref a,u=>u=Value.ref a
 | .ty n,u=>u=Value.type n
noncomputable abbrev Vals:List V→List Value→Prop:=Paired RelV
theorem Vals.length {xs:List V}{us:List Value} (r:Vals xs us):xs.length=us.length:=Paired.length r
theorem Vals.get:∀ {xs:List V}{us:List Value}{i:Nat}{x:V},Vals xs us→xs[i]?=some x→∃ u,us[i]?=some u∧RelV x u
 | _,_,_,_,.nil,e=>by simp at e
 | _,_,0,_,.cons r _,e=>by simp at e; subst e; exact ⟨_,rfl,r⟩
 | _,_,i+1,x,.cons _ t,e=>by
  obtain ⟨u,h1,h2⟩:=Vals.get (i:=i) (x:=x) t (by simpa using e)
  exact ⟨u,by simpa using h1,h2⟩
theorem Vals.set {x:V}{u:Value} (r:RelV x u):∀ {xs:List V}{us:List Value} (i:Nat),Vals xs us→Vals (xs.set i x) (us.set i u)
 | _,_,_,.nil=>.nil
 | _,_,0,.cons _ t=>.cons r t
 | _,_,i+1,.cons q t=>.cons q (Vals.set r i t)
theorem Vals.append:∀ {xs ys:List V}{us ws:List Value},Vals xs us→Vals ys ws→Vals (xs++ys) (us++ws)
 | _,_,_,_,.nil,s=>s
 | _,_,_,_,.cons r t,s=>.cons r (Vals.append t s)
theorem Vals.take:∀ {xs:List V}{us:List Value} (n:Nat),Vals xs us→Vals (xs.take n) (us.take n)
 | _,_,0,_=>.nil
 | _,_,_+1,.nil=>.nil
 | _,_,n+1,.cons r t=>.cons r (Vals.take n t)
theorem Vals.drop:∀ {xs:List V}{us:List Value} (n:Nat),Vals xs us→Vals (xs.drop n) (us.drop n)
 | _,_,0,r=>r
 | _,_,_+1,.nil=>.nil
 | _,_,n+1,.cons _ t=>Vals.drop n t
noncomputable def RelO:Option V→Option Value→Prop
 | some v,some u=>RelV v u
 | none,none=>True
 | _,_=>False
noncomputable def KV {κ:Type}:List (κ × V)→List (κ × Value)→Prop:=Paired fun (p:κ × V) (q:κ × Value)=>p.1=q.1∧RelV p.2 q.2
noncomputable def kV:Key→V
 | .inl i=>.int i
 | .inr x=>.str x
inductive HO where
 /-- a list -/
 | lst (xs:List V)
 /-- a tuple (never changes) -/
 | tup (xs:List V)
 /-- a dict whose keys are ints and texts; one whose keys are tuples of ints and texts (the empty one is both) -/
 | dK (kvs:List (Key × V)) | dT (kvs:List (List Key × V))
 /-- a set of ints: its members,its size -/
 | set (S:Int→Bool) (n:Nat)
 /-- an instance of the class at C,its dict at dx,its attributes -/
 | ins (C dx:Addr) (fs:List (Str × V))
 /-- the dict of the instance at x -/
 | own (x:Addr)
 /-- the dict of an exception -/
 | xd (fs:List (Str × V))
 /-- a bound method,f of x -/
 | met (f x:Addr)
 /-- a range object lo,lo+1,.. below hi -/
 | rng (lo hi:Int)
 /-- a thing that is known to the object (the script; a dict while a loop walks it): read,never written while it is so -/
 | frz (o:Obj) (u:HO)
 /-- a code object's table -/
 | tbl (ps:Array Value)
 /-- any other thing,by what is true of its one object (a def of one's own: SetO a S n:=HO.ext fun h=>..) -/
 | ext (φ:Heap→Prop)
noncomputable abbrev Hp:=Addr→Option HO
noncomputable def upd (H:Hp) (a:Addr) (o:HO):Hp:=fun b=>if b=a then some o else H b
theorem upd_same {H:Hp}{a:Addr}{o:HO}:upd H a o a=some o:=by unfold upd; rw [if_pos rfl]
theorem upd_ne {H:Hp}{a b:Addr}{o:HO} (h:b≠a):upd H a o b=H b:=by unfold upd; rw [if_neg h]
theorem ne_of {H:Hp}{a b:Addr}{o u:HO} (h:H a=some o) (h':H b=some u) (d:o≠u):a≠b:=by
 intro e; subst e; rw [h] at h'; exact d (Option.some.inj h')
theorem ne_of_none {H:Hp}{a b:Addr}{o:HO} (h:H a=some o) (h':H b=none):a≠b:=by
 intro e; subst e; rw [h] at h'; cases h'
section
variable (P:Program) (w:World)
noncomputable def ObjOk (H:Hp) (h:Heap) (a:Addr):HO→Prop
 | .lst xs=>xs.length≤sizeLine∧∃ (its:List Value) (n:Nat),Vals xs its∧h.get? a=some { cls:=.type "list",data:=.seq its.toArray n }
 | .tup xs=>xs.length≤sizeLine∧∃ its:List Value,Vals xs its∧IsTup h a its.toArray
 | .dK kvs=>kvs.length≤sizeLine∧(a == sysModules)=false∧∃ vs,KV kvs vs∧h.DictOf (mixKind P w) a vs
 | .dT kvs=>kvs.length≤sizeLine∧(a == sysModules)=false∧∃ xs:List (List Key × Addr × Value),
   Paired (fun (p:List Key × V) (q:List Key × Addr × Value)=>p.1=q.1∧H q.2.1=some (.tup (p.1.map kV))∧RelV p.2 q.2.2) kvs xs ∧
   ∃ o es ep,h.get? a=some o∧o.ExactDict∧o.data=.dict es ep∧es.toList=xs.map (entryOfKey (tupleKind (mixKind P w)))∧(xs.map (·.1)).Nodup
 | .set S n=>h.SetOf (intKind P w) a S n
 | .ins C dx fs=>H dx=some (.own a)∧fs.length≤1000∧dx≠a∧h.get? a=some (W.instObj C dx) ∧
   ∃ mA,h.Ns1 dx mA∧(∀ f,RelO (fs.lookup f) (mA f))∧PySem.Within mA (fs.map (·.1))
 | .own _=>∃ o,h.get? a=some o
 | .xd fs=>∃ mA,h.Ns1 a mA∧∀ f,RelO (fs.lookup f) (mA f)
 | .rng lo hi=>∃ t u v,h.get? a=some { cls:=.type "range",data:=.fields #[.int lo t,.int hi u,.int 1 v] }
 | .frz o u=>h.get? a=some o∧ObjOk H h a u
 | .tbl ps=>h.get? a=some { cls:=.none,data:=.fields ps }
 | .met f x=>h.get? a=some (W.methodObj (.ref f) (.ref x))
 | .ext φ=>φ h∧(∃ o,h.get? a=some o)∧∀ h1 h2:Heap,φ h1→(∀ o,h1.get? a=some o→h2.get? a=some o)→φ h2
def HOk (H:Hp) (h:Heap):Prop:=∀ a o,H a=some o→ObjOk P w H h a o
end
section
variable {P:Program}{w:World}{H H':Hp}{h h':Heap}{a:Addr}{o:HO}
theorem ObjOk.lt (x:ObjOk P w H h a o):a<h.objs.size:=by
 cases o with
 | lst xs=>obtain ⟨_,_,_,_,e⟩:=x; exact Heap.lt_size e
 | tup xs=>obtain ⟨_,_,_,p⟩:=x; exact p.lt
 | dK kvs=>obtain ⟨_,_,_,_,o,_,_,e,_⟩:=x; exact Heap.lt_size e
 | dT kvs=>obtain ⟨_,_,_,_,o,_,_,e,_⟩:=x; exact Heap.lt_size e
 | set S n=>obtain ⟨o,_,_,_,e,_⟩:=x; exact Heap.lt_size e
 | ins C dx fs=>obtain ⟨_,_,_,e,_⟩:=x; exact Heap.lt_size e
 | own y=>obtain ⟨_,e⟩:=x; exact Heap.lt_size e
 | xd fs=>obtain ⟨_,⟨_,_,_,e,_⟩,_⟩:=x; exact Heap.lt_size e
 | rng lo hi=>obtain ⟨_,_,_,e⟩:=x; exact Heap.lt_size e
 | frz ob u=>obtain ⟨e,_⟩:=x; exact Heap.lt_size e
 | tbl ps=>exact Heap.lt_size (show h.get? a=some _ from x)
 | met f y=>exact Heap.lt_size (show h.get? a=some _ from x)
 | ext φ=>obtain ⟨_,⟨_,e⟩,_⟩:=x; exact Heap.lt_size e
theorem Paired.mapP {α β:Type}{F G:α→β→Prop}:∀ {l₁:List α}{l₂:List β},Paired F l₁ l₂→(∀ a b,F a b→G a b)→Paired G l₁ l₂
 | _,_,.nil,_=>.nil
 | _,_,.cons r t,f=>.cons (f _ _ r) (Paired.mapP t f)
theorem ObjOk.stay (x:ObjOk P w H h a o) (k:∀ b u,(b=a∨H b=some (.own a))→h.get? b=some u→h'.get? b=some u)
  (ho:∀ b,H b=some (.own a)→H' b=some (.own a)) (ht:∀ b xs,H b=some (.tup xs)→H' b=some (.tup xs)):ObjOk P w H' h' a o:=by
 induction o with
 | lst xs=>obtain ⟨z,its,n,r,e⟩:=x; exact ⟨z,its,n,r,k _ _ (.inl rfl) e⟩
 | tup xs=>obtain ⟨z,its,r,ob,e,c⟩:=x; exact ⟨z,its,r,ob,k _ _ (.inl rfl) e,c⟩
 | dK kvs=>obtain ⟨z,y,vs,r,ob,es,ep,e,c⟩:=x; exact ⟨z,y,vs,r,ob,es,ep,k _ _ (.inl rfl) e,c⟩
 | dT kvs =>
  obtain ⟨z,y,xs,r,ob,es,ep,e,c⟩:=x
  exact ⟨z,y,xs,Paired.mapP r fun p q z=>⟨z.1,ht _ _ z.2.1,z.2.2⟩,ob,es,ep,k _ _ (.inl rfl) e,c⟩
 | set S n=>obtain ⟨ob,es,ep,t,e,c⟩:=x; exact ⟨ob,es,ep,t,k _ _ (.inl rfl) e,c⟩
 | ins C dx fs =>
  obtain ⟨d,z,ne,e,mA,⟨od,es,ep,e2,c⟩,r⟩:=x
  exact ⟨ho _ d,z,ne,k _ _ (.inl rfl) e,mA,⟨od,es,ep,k _ _ (.inr d) e2,c⟩,r⟩
 | own y=>obtain ⟨ob,e⟩:=x; exact ⟨ob,k _ _ (.inl rfl) e⟩
 | xd fs=>obtain ⟨mA,⟨od,es,ep,e,c⟩,r⟩:=x; exact ⟨mA,⟨od,es,ep,k _ _ (.inl rfl) e,c⟩,r⟩
 | rng lo hi=>obtain ⟨t,u,v,e⟩:=x; exact ⟨t,u,v,k _ _ (.inl rfl) e⟩
 | frz ob u ih=>obtain ⟨e,q⟩:=x; exact ⟨k _ _ (.inl rfl) e,ih q⟩
 | tbl ps =>
  have e:h.get? a=some { cls:=.none,data:=.fields ps }:=x
  show h'.get? a=some { cls:=.none,data:=.fields ps }
  exact k a _ (.inl rfl) e
 | met f y =>
  have e:h.get? a=some (W.methodObj (.ref f) (.ref y)):=x
  show h'.get? a=some (W.methodObj (.ref f) (.ref y))
  exact k a _ (.inl rfl) e
 | ext φ=>obtain ⟨p,⟨o,e⟩,st⟩:=x; exact ⟨st _ _ p fun o q=>k _ _ (.inl rfl) q,⟨o,k _ _ (.inl rfl) e⟩,st⟩
theorem HOk.lt (x:HOk P w H h) (e:H a=some o):a<h.objs.size:=(x a o e).lt
theorem HOk.fresh (x:HOk P w H h) (e:h.objs.size≤a):H a=none:=by
 cases q:H a with
 | none=>rfl
 | some u=>exact absurd (Nat.lt_of_lt_of_le (x.lt q) e) (Nat.lt_irrefl _)
theorem HOk.kept (x:HOk P w H h) (k:∀ b u,h.get? b=some u→h'.get? b=some u):HOk P w H h':=fun a o e =>
 (x a o e).stay (fun b u _ q=>k b u q) (fun _ q=>q) fun _ _ q=>q
theorem HOk.laid (x:HOk P w H h) (k:∀ b u,h.get? b=some u→h'.get? b=some u) (hp:h.objs.size≤a) (new:ObjOk P w (upd H a o) h' a o):HOk P w (upd H a o) h':=fun b u e=>by
 have hn:=x.fresh hp
 by_cases hb:b=a
 ·subst hb; rw [upd_same] at e; cases e; exact new
 ·rw [upd_ne hb] at e
  exact (x b u e).stay (fun c v _ q=>k c v q) (fun c q=>by rw [upd_ne (ne_of_none q hn)]; exact q) fun c xs q=>by rw [upd_ne (ne_of_none q hn)]; exact q
end
def Rd (H:Hp) (a:Addr) (u:HO):Prop:=H a=some u∨∃ o,H a=some (.frz o u)
theorem Rd.ok {P:Program}{w:World}{H:Hp}{h:Heap}{a:Addr}{u:HO} (r:Rd H a u) (x:HOk P w H h):ObjOk P w H h a u:=by
 rcases r with r | ⟨o,r⟩
 ·exact x a u r
 ·obtain ⟨_,q⟩:=x a _ r
  exact q
noncomputable def Mut:Option HO→Prop
 | some (.lst _)=>True
 | some (.dK _)=>True
 | some (.dT _)=>True
 | some (.set _ _)=>True
 | some (.ins _ _ _)=>True
 | some (.ext _)=>True
 | _=>False
section
variable {P:Program}{w:World}{H:Hp}{h h':Heap}{x e:Addr}{o':HO}
theorem HOk.write (ok:HOk P w H h) (mu:Mut (H x)) (he:e=x∨H e=some (.own x)) (k:∀ b u,b≠e→h.get? b=some u→h'.get? b=some u) (heo:∃ u,h'.get? e=some u)
  (new:ObjOk P w (upd H x o') h' x o'):HOk P w (upd H x o') h':=fun b u q=>by
 have nown:∀ c y,H c=some (.own y)→c≠x:=fun c y r z=>by subst z; rw [r] at mu; exact mu
 have ntup:∀ c xs,H c=some (.tup xs)→c≠x:=fun c xs r z=>by subst z; rw [r] at mu; exact mu
 by_cases hb:b=x
 ·subst hb; rw [upd_same] at q; cases q; exact new
 ·rw [upd_ne hb] at q
  by_cases hbe:b=e
  ·have q':H b=some (.own x):=by
    rcases he with z | z
    ·exact absurd (hbe.trans z) hb
    ·rw [hbe]; exact z
   rw [q] at q'; cases q'
   obtain ⟨v,hv⟩:=heo
   exact ⟨v,by rw [hbe]; exact hv⟩
  ·refine (ok b u q).stay (fun c v hc r=>k c v ?_ r) (fun c r=>by rw [upd_ne (nown c b r)]; exact r) fun c xs r=>by rw [upd_ne (ntup c xs r)]; exact r
   rcases hc with rfl | hc
   ·exact hbe
   ·rintro rfl
    rcases he with z | z
    ·exact nown c b hc z
    ·rw [hc] at z; cases z; exact hb rfl
end
structure Un (fs ex:List Addr) (H H':Hp) (h h':Heap):Prop where
 keep:∀ b o,h.get? b=some o→H b=none→b∉fs→b∉ex→h'.get? b=some o
 slot:∀ b o,h.get? b=some o→H b=none→b∈fs→b∉ex→∃ sl,h'.get? b=some { o with slots:=sl }
 free:∀ b o,h.get? b=some o→H b=none→b∉ex→H' b=none
 there:∀ b o,h.get? b=some o→b∉ex→∃ o',h'.get? b=some o'
 tups:∀ b xs,H b=some (.tup xs)→H' b=some (.tup xs)
 frzs:∀ b o u,H b=some (.frz o u)→H' b=some (.frz o u)
 tbls:∀ b ps,H b=some (.tbl ps)→∃ more,H' b=some (.tbl (ps++more))
section
variable {fs fs' ex ex':List Addr}{H H1 H2:Hp}{h h1 h2 h':Heap}{a x e:Addr}{o:HO}
theorem Un.any (u:Un fs ex H H1 h h1) {b:Addr}{ob:Obj} (q:h.get? b=some ob) (n:H b=none) (hx:b∉ex):∃ sl,h1.get? b=some { ob with slots:=sl }:=by
 by_cases hb:b∈fs
 ·exact u.slot b ob q n hb hx
 ·exact ⟨ob.slots,u.keep b ob q n hb hx⟩
theorem Un.kept (k:∀ b u,h.get? b=some u→h'.get? b=some u):Un fs ex H H h h' :=
 ⟨fun b ob q _ _ _=>k b ob q,fun b ob q _ _ _=>⟨ob.slots,k b ob q⟩,fun _ _ _ n _=>n,fun b ob q _=>⟨ob,k b ob q⟩,fun _ _ q=>q,fun _ _ _ q=>q,fun _ ps q=>⟨#[],by rw [q]; simp⟩⟩
theorem Un.refl:Un fs ex H H h h:=Un.kept fun _ _ q=>q
theorem Un.laid (k:∀ b u,h.get? b=some u→h'.get? b=some u) (hp:h.objs.size≤a) (hn:H a=none):Un fs ex H (upd H a o) h h' where
 keep:=fun b u q _ _ _=>k b u q
 slot:=fun b u q _ _ _=>⟨u.slots,k b u q⟩
 free:=fun b u q n _=>by rw [upd_ne (Nat.ne_of_lt (Nat.lt_of_lt_of_le (Heap.lt_size q) hp))]; exact n
 there:=fun b u q _=>⟨u,k b u q⟩
 tups:=fun b xs q=>by rw [upd_ne (ne_of_none q hn)]; exact q
 frzs:=fun b u xs q=>by rw [upd_ne (ne_of_none q hn)]; exact q
 tbls:=fun b ps q=>⟨#[],by rw [upd_ne (ne_of_none q hn),q]; simp⟩
theorem Un.write (mu:Mut (H x)) (he:e=x∨H e=some (.own x)) (k:∀ b u,b≠e→h.get? b=some u→h'.get? b=some u) (heo:∃ u,h'.get? e=some u):Un fs ex H (upd H x o) h h':=by
 have hx:∀ b,H b=none→b≠x:=fun b n z=>by subst z; rw [n] at mu; exact mu
 have hb:∀ b,H b=none→b≠e:=fun b n z=>by
  subst z
  rcases he with r | r
  ·exact hx b n r
  ·rw [n] at r; cases r
 have hm:∀ b u,H b=some u→¬ Mut (some u)→b≠x:=fun b u q nm z=>by subst z; rw [q] at mu; exact nm mu
 refine ⟨fun b u q n _ _=>k b u (hb b n) q,fun b u q n _ _=>⟨u.slots,k b u (hb b n) q⟩,fun b u q n _=>by rw [upd_ne (hx b n)]; exact n,fun b u q _=>?_,
  fun b xs q=>by rw [upd_ne (hm b _ q fun z=>z)]; exact q,fun b u xs q=>by rw [upd_ne (hm b _ q fun z=>z)]; exact q,fun b ps q=>⟨#[],by rw [upd_ne (hm b _ q fun z=>z),q]; simp⟩⟩
 by_cases hbe:b=e
 ·subst hbe; exact heo
 ·exact ⟨u,k b u hbe q⟩
end
noncomputable def trk (h:Heap) (H:Hp):List Addr:=(List.range h.objs.size).filter fun a=>(H a).isSome
noncomputable def hidT (h:Heap) (H:Hp):Heap:=W.hideAll h (trk h H)
theorem hidT_size (h:Heap) (H:Hp):(hidT h H).objs.size=h.objs.size:=W.hideAll_size _ _
theorem hidT_get {h:Heap}{H:Hp}{b:Addr}{o:Obj} (e:h.get? b=some o) (n:H b=none):(hidT h H).get? b=some o :=
 W.hideAll_get _ e fun hm=>by
  have q:(H b).isSome=true:=(List.mem_filter.mp hm).2
  rw [n] at q; simp at q
theorem of_hidT {h:Heap}{H:Hp}{b:Addr}{o:Obj} (e:(hidT h H).get? b=some o):h.get? b=some o∧H b=none:=by
 have e':h.get? b=some o:=W.of_hideAll (trk h H) e
 refine ⟨e',?_⟩
 cases q:H b with
 | none=>rfl
 | some x =>
  have hm:b∈trk h H:=List.mem_filter.mpr ⟨List.mem_range.mpr (Heap.lt_size e'),by simp [q]⟩
  have z:(hidT h H).get? b=none:=W.hideAll_none (trk h H) hm
  rw [z] at e; cases e
noncomputable def allNews (g h:Heap) (L:Addr):List (Addr × Obj):=(List.range h.objs.size).filterMap fun a=>if a=L∨(g.get? a).isSome=true then none else (h.get? a).map fun o=>(a,o)
noncomputable def rest (g h:Heap) (L d:Addr):List (Addr × Obj):=(allNews g h L).filter fun p=>decide (p.1≠d)
structure Mod (K:W.Frag) (mg:Str→Option Value) (base:Heap):Prop where
 kin:K.In base
 glob:base.Ns mainGlobals mg
 blt:∃ mb,base.Ns builtinsNs mb∧∀ x:Str,x ≠ "__name__"→mb x=bootBuiltins x
 nolimit:base.NoLimit
structure Cx where
 prog:Program
 w:World
 K:W.Frag
 mg:Str→Option Value
 base:Heap
 A:Around
 N:List Str
 s₀:Shared
 H₀:Hp
 env:Env
 outer:List Env
 stack:List Env
 ex:List Addr
 fn:Str→Bool
 calm:Bool
 pn:List (Addr × Obj)
 xe:Value→Shared→Prop
noncomputable def frs (l:List Env):List Addr:=l.filterMap (·.frame)
noncomputable abbrev Cx.fs (X:Cx):List Addr:=frs X.outer
def Vis (sc:Scope) (x:Str):Prop:=sc.names.lookup x=some .local∨sc.names.lookup x=some .cell∨sc.names.lookup x=some .free
def Loc (sc:Scope) (x:Str):Prop:=sc.names.lookup x=some .local∨sc.names.lookup x=some .cell
def Look (env:Env) (h:Heap) (m:Str→Option Value) (x:Str) (u:Value):Prop :=
 (env.kindOf x=some .local∧m x=some u)∨((env.kindOf x=some .cell∨env.kindOf x=some .free)∧∃ c,env.cells.lookup x=some c∧h.IsCell c (some u))
structure Cx.Ok (X:Cx):Prop where
 mod:Mod X.K X.mg X.base
 kind:X.env.scope.kind=.function
 glob:X.env.globals=mainGlobals
 blt:X.env.builtins=builtinsNs
 above:X.s₀.heap.objs.size≤X.env.locals
 inj:∀ x y c,X.env.cells.lookup x=some c→X.env.cells.lookup y=some c→x=y
 has:∀ x,(X.env.kindOf x=some .cell∨X.env.kindOf x=some .free)→∃ c,X.env.cells.lookup x=some c
 cab:∀ x c,X.fn x=true→X.env.cells.lookup x=some c→X.s₀.heap.objs.size≤c
 hd:X.calm=true→X.A.handled=none
 frames:X.A.frames=some X.stack
 stk:X.stack=X.outer∨(X.stack=X.env::X.outer∧X.env.frame=some X.env.locals)
 exf:∀ b∈X.ex,b≠X.env.locals∧∀ x c,X.env.cells.lookup x=some c→c≠b
 bs:∀ b o,X.base.get? b=some o→X.s₀.heap.get? b=some o∧X.H₀ b=none
 bsz:X.base.objs.size≤X.s₀.heap.objs.size
 noex:∀ b o,X.base.get? b=some o→b∉X.ex
 exfs:∀ b∈X.ex,b∉X.fs
 funs:X.s₀.heap.FunFrames X.base X.outer
 frf:∀ b∈X.fs,X.H₀ b=none
structure Inv (X:Cx) (pins:List (Addr × Obj)) (σ:List (Option V)) (H:Hp) (s:Shared):Prop where
 ok:X.Ok
 os:s.os=X.s₀.os
 bare:AllBare s.gens
 base:Un X.fs X.ex X.H₀ H X.s₀.heap s.heap
 loc:∃ m,s.heap.Ns X.env.locals m∧∀ (i:Nat) (x:Str) (v:V),X.N[i]?=some x→σ[i]?=some (some v)→Vis X.env.scope x→∃ u,RelV v u∧Look X.env s.heap m x u
 cell:∀ x c,X.env.cells.lookup x=some c→∃ v,s.heap.IsCell c v
 free:H X.env.locals=none
 freeC:∀ x c,X.env.cells.lookup x=some c→H c=none
 pin:∀ p∈X.pn++pins,s.heap.get? p.1=some p.2∧H p.1=none∧p.1≠X.env.locals∧p.1∉X.fs∧∀ v,p.2.data≠.cell v
 hok:HOk X.prog X.w H s.heap
 len:σ.length=X.N.length
section
variable {X:Cx}{pins:List (Addr × Obj)}{σ:List (Option V)}{H H':Hp}{s:Shared}{h':Heap}
theorem Cx.Ok.nofr (ok:X.Ok) {b:Addr}{o:Obj} (e:X.base.get? b=some o):b∉X.fs:=fun hb=>by
 have:=(ok.funs.mem hb).1
 rw [e] at this; cases this
theorem Inv.bs (I:Inv X pins σ H s):∀ b o,X.base.get? b=some o→s.heap.get? b=some o∧H b=none:=fun b o e =>
 ⟨I.base.keep b o (I.ok.bs b o e).1 (I.ok.bs b o e).2 (I.ok.nofr e) (I.ok.noex b o e),I.base.free b o (I.ok.bs b o e).1 (I.ok.bs b o e).2 (I.ok.noex b o e)⟩
theorem Inv.bk (I:Inv X pins σ H s):∀ b o,X.base.get? b=some o→s.heap.get? b=some o:=fun b o e=>(I.bs b o e).1
theorem Inv.mod (I:Inv X pins σ H s):Mod X.K X.mg X.base:=I.ok.mod
theorem Inv.kIn (I:Inv X pins σ H s):X.K.In s.heap:=I.ok.mod.kin.keeps I.bk
theorem Inv.lt (I:Inv X pins σ H s):X.env.locals<s.heap.objs.size:=let ⟨_,hn,_⟩:=I.loc; hn.lt
theorem Inv.sz (I:Inv X pins σ H s):X.s₀.heap.objs.size≤s.heap.objs.size:=Nat.le_trans I.ok.above (Nat.le_of_lt I.lt)
theorem Inv.nofs (I:Inv X pins σ H s) {a:Addr} (h:s.heap.objs.size≤a):a∉X.fs:=fun hb=>by
 obtain ⟨_,o,ho,_⟩:=I.ok.funs.mem hb
 exact absurd (Nat.lt_of_lt_of_le (Heap.lt_size ho) (Nat.le_trans I.sz h)) (Nat.lt_irrefl _)
theorem Inv.cne (I:Inv X pins σ H s):∀ x c,X.env.cells.lookup x=some c→c≠X.env.locals:=fun x c e z=>by
 obtain ⟨v,o,ho,hd⟩:=I.cell x c e
 obtain ⟨m,⟨o',es,ep,ho',hd',_⟩,_⟩:=I.loc
 rw [z,ho'] at ho; cases ho; rw [hd'] at hd; cases hd
theorem Inv.funs (I:Inv X pins σ H s):s.heap.FunFrames X.base X.outer:=by
 have all:∀ (l:List Env),(∀ b∈frs l,b∈X.fs)→X.s₀.heap.FunFrames X.base l→s.heap.FunFrames X.base l:=by
  intro l
  induction l with
  | nil=>intro _ _; trivial
  | cons env r ih =>
   intro hs hl
   obtain ⟨hk,⟨L,o,hf,hn,ho,hd⟩,hr⟩:=hl
   have hL:L∈X.fs:=hs L (by unfold frs; rw [List.filterMap_cons,hf]; exact List.mem_cons_self)
   obtain ⟨sl,e⟩:=I.base.slot L o ho (I.ok.frf L hL) hL fun z=>I.ok.exfs L z hL
   exact ⟨hk,⟨L,_,hf,hn,e,hd⟩,ih (fun b hb=>hs b (by unfold frs; rw [List.filterMap_cons,hf]; exact List.mem_cons_of_mem _ hb)) hr⟩
 exact all X.outer (fun _ hb=>hb) I.ok.funs
theorem Inv.stack (I:Inv X pins σ H s):s.heap.FunFrames X.base X.stack:=by
 rcases I.ok.stk with e | ⟨e,hf⟩
 ·rw [e]; exact I.funs
 ·rw [e]
  obtain ⟨m,hn,_⟩:=I.loc
  refine .cons (by rw [I.ok.kind]; decide) hf hn ?_ I.funs
  exact Heap.get?_none_of_le (Nat.le_trans I.ok.bsz I.ok.above)
theorem Inv.stkSub (I:Inv X pins σ H s):∀ b∈frs X.stack,b∈X.env.locals::X.fs:=fun b hb=>by
 rcases I.ok.stk with e | ⟨e,hf⟩
 ·rw [e] at hb; exact List.mem_cons_of_mem _ hb
 ·rw [e] at hb
  unfold frs at hb
  rw [List.filterMap_cons,hf] at hb
  exact hb
theorem Inv.stkFree (I:Inv X pins σ H s):∀ b∈frs X.stack,H b=none:=fun b hb=>by
 rcases List.mem_cons.mp (I.stkSub b hb) with e | hb
 ·rw [e]; exact I.free
 ·obtain ⟨_,o,ho,_⟩:=I.ok.funs.mem hb
  exact I.base.free b o ho (I.ok.frf b hb) fun z=>I.ok.exfs b z hb
theorem Inv.step {g':Array GenState}{t':Nat}{d':Drawn}{ch:List Addr} (I:Inv X pins σ H s)
  (hch:∀ b∈ch,(b∈X.ex∨X.s₀.heap.objs.size≤b)∧b≠X.env.locals∧(∀ x c,X.env.cells.lookup x=some c→c≠b)∧∀ p∈X.pn++pins,p.1≠b)
  (keep:∀ b o,b≠X.env.locals→b∉X.fs→b∉ch→s.heap.get? b=some o→H b=none→h'.get? b=some o)
  (slot:∀ b o,b≠X.env.locals→b∈X.fs→b∉ch→s.heap.get? b=some o→H b=none→∃ sl,h'.get? b=some { o with slots:=sl }) (free:∀ b o,b∉ch→s.heap.get? b=some o→H b=none→H' b=none)
  (there:∀ b o,b∉ch→s.heap.get? b=some o→∃ o',h'.get? b=some o')
  (tups:∀ b xs,H b=some (.tup xs)→H' b=some (.tup xs)) (frzs:∀ b o u,H b=some (.frz o u)→H' b=some (.frz o u)) (tbls:∀ b ps,H b=some (.tbl ps)→∃ more,H' b=some (.tbl (ps++more)))
  (ns:∀ m,s.heap.Ns X.env.locals m→h'.Ns X.env.locals m) (hok:HOk X.prog X.w H' h') (hg:AllBare g') :
  Inv X pins σ H' { s with heap:=h',gens:=g',drawn:=d',toks:=t' }:=by
 have neL:∀ b o,X.s₀.heap.get? b=some o→b≠X.env.locals:=fun b o e=>Nat.ne_of_lt (Nat.lt_of_lt_of_le (Heap.lt_size e) I.ok.above)
 have neC:∀ b o,X.s₀.heap.get? b=some o→b∉X.ex→b∉ch:=fun b o e hx hb=>by
  rcases (hch b hb).1 with z | z
  ·exact hx z
  ·exact absurd (Nat.lt_of_lt_of_le (Heap.lt_size e) z) (Nat.lt_irrefl _)
 have cellK:∀ x c,X.env.cells.lookup x=some c→∀ v,s.heap.IsCell c v→h'.IsCell c v:=fun x c e v ⟨o,ho,hd⟩=>by
  have nch:c∉ch:=fun z=>(hch c z).2.2.1 x c e rfl
  by_cases hc:c∈X.fs
  ·obtain ⟨sl,q⟩:=slot c o (I.cne x c e) hc nch ho (I.freeC x c e)
   exact ⟨_,q,hd⟩
  ·exact ⟨o,keep c o (I.cne x c e) hc nch ho (I.freeC x c e),hd⟩
 refine ⟨I.ok,I.os,hg,⟨fun b o e n hb hx=>?_,fun b o e n hb hx=>?_,fun b o e n hx=>?_,fun b o e hx=>?_,fun b xs e=>tups b xs (I.base.tups b xs e),fun b o xs e=>frzs b o xs (I.base.frzs b o xs e),fun b ps e=>?_⟩,?_,fun x c e=>?_,?_,fun x c e=>?_,fun p hp=>?_,hok,I.len⟩
 ·exact keep b o (neL b o e) hb (neC b o e hx) (I.base.keep b o e n hb hx) (I.base.free b o e n hx)
 ·obtain ⟨sl,e1⟩:=I.base.slot b o e n hb hx
  obtain ⟨sl',e2⟩:=slot b _ (neL b o e) hb (neC b o e hx) e1 (I.base.free b o e n hx)
  exact ⟨sl',e2⟩
 ·obtain ⟨o',e1⟩:=I.base.there b o e hx
  exact free b o' (neC b o e hx) e1 (I.base.free b o e n hx)
 ·obtain ⟨o',e1⟩:=I.base.there b o e hx
  exact there b o' (neC b o e hx) e1
 ·obtain ⟨m1,e1⟩:=I.base.tbls b ps e
  obtain ⟨m2,e2⟩:=tbls b _ e1
  exact ⟨m1++m2,by rw [e2,Array.append_assoc]⟩
 ·obtain ⟨m,hn,hl⟩:=I.loc
  refine ⟨m,ns m hn,fun i x v e1 e2 e3=>?_⟩
  obtain ⟨u,r,l⟩:=hl i x v e1 e2 e3
  refine ⟨u,r,?_⟩
  rcases l with l | ⟨k,c,e,z⟩
  ·exact .inl l
  ·exact .inr ⟨k,c,e,cellK x c e _ z⟩
 ·obtain ⟨v,z⟩:=I.cell x c e
  exact ⟨v,cellK x c e v z⟩
 ·obtain ⟨m,⟨o,_,_,ho,_⟩,_⟩:=I.loc
  exact free _ o (fun z=>(hch _ z).2.1 rfl) ho I.free
 ·obtain ⟨v,o,ho,hd⟩:=I.cell x c e
  exact free c o (fun z=>(hch c z).2.2.1 x c e rfl) ho (I.freeC x c e)
 ·obtain ⟨e,n,ne,nf,d⟩:=I.pin p hp
  have nch:p.1∉ch:=fun z=>(hch p.1 z).2.2.2 p hp rfl
  exact ⟨keep p.1 p.2 ne nf nch e n,free p.1 p.2 nch e n,ne,nf,d⟩
theorem Inv.un {t':Nat} (I:Inv X pins σ H s) (u:Un X.fs [] H H' s.heap h') (hok:HOk X.prog X.w H' h'):Inv X pins σ H' { s with heap:=h',toks:=t' }:=by
 obtain ⟨m,⟨o,es,ep,ho,r⟩,_⟩:=id I.loc
 obtain ⟨sl,hL⟩:=u.any ho I.free (by simp)
 exact I.step (g':=s.gens) (d':=s.drawn) (ch:=[]) (fun _ z=>nomatch z) (fun b o _ hb _ e n=>u.keep b o e n hb (by simp)) (fun b o _ hb _ e n=>u.slot b o e n hb (by simp)) (fun b o _ e n=>u.free b o e n (by simp)) (fun b o _ e=>u.there b o e (by simp)) u.tups u.frzs u.tbls (fun m' hm=>by
  obtain ⟨o',es',ep',ho',r'⟩:=hm
  rw [ho] at ho'; cases ho'
  exact ⟨_,es',ep',hL,r'⟩) hok I.bare
theorem Inv.call {g':Array GenState}{t':Nat}{d':Drawn}{ch:List Addr} (I:Inv X pins σ H s) (u:Un (frs X.stack) ch H H' s.heap h') (hok:HOk X.prog X.w H' h') (hg:AllBare g')
  (hch:∀ b∈ch,(b∈X.ex∨X.s₀.heap.objs.size≤b)∧b≠X.env.locals∧(∀ x c,X.env.cells.lookup x=some c→c≠b)∧∀ p∈X.pn++pins,p.1≠b) :
  Inv X pins σ H' { s with heap:=h',gens:=g',drawn:=d',toks:=t' }:=by
 obtain ⟨m,⟨o,es,ep,ho,r⟩,_⟩:=id I.loc
 obtain ⟨sl,hL⟩:=u.any ho I.free fun z=>(hch _ z).2.1 rfl
 exact I.step (ch:=ch) hch (fun b o hL hb hc e n=>u.keep b o e n (fun z=>(List.mem_cons.mp (I.stkSub b z)).elim hL hb) hc) (fun b o _ _ hc e n=>u.any e n hc) (fun b o hc e n=>u.free b o e n hc) (fun b o hc e=>u.there b o e hc) u.tups u.frzs u.tbls (fun m' hm=>by
  obtain ⟨o',es',ep',ho',r'⟩:=hm
  rw [ho] at ho'; cases ho'
  exact ⟨_,es',ep',hL,r'⟩) hok hg
theorem Inv.turned {t':Nat}{it:Addr} (I:Inv X pins σ H s) (k:∀ b o,b≠it→s.heap.get? b=some o→h'.get? b=some o) (hn:H it=none) (hL:it≠X.env.locals)
  (h1:it∈X.ex∨X.s₀.heap.objs.size≤it) (h2:∀ x c,X.env.cells.lookup x=some c→c≠it) (h3:∀ p∈X.pn++pins,p.1≠it):Inv X pins σ H { s with heap:=h',toks:=t' }:=by
 have nit:∀ b u,H b=some u→b≠it:=fun b u e z=>by rw [z,hn] at e; cases e
 refine I.step (g':=s.gens) (d':=s.drawn) (ch:=[it]) (fun b hb=>?_) (fun b o _ _ hc e _=>k b o (fun z=>hc (by simp [z])) e) (fun b o _ _ hc e _=>⟨o.slots,k b o (fun z=>hc (by simp [z])) e⟩) (fun _ _ _ _ n=>n)
  (fun b o hc e=>⟨o,k b o (fun z=>hc (by simp [z])) e⟩) (fun _ _ e=>e) (fun _ _ _ e=>e) (fun b ps e=>⟨#[],by rw [e]; simp⟩) (fun m hm=>?_) (fun b u e=>?_) I.bare
 ·have e:b=it:=by simpa using hb
  subst e
  exact ⟨h1,hL,h2,h3⟩
 ·obtain ⟨o,es,ep,ho,r⟩:=hm
  exact ⟨o,es,ep,k _ o (Ne.symm hL) ho,r⟩
 ·refine (I.hok b u e).stay (fun c v hc q=>k c v ?_ q) (fun _ q=>q) fun _ _ q=>q
  rcases hc with z | z
  ·rw [z]; exact nit b u e
  ·exact nit c _ z
theorem Inv.tok (I:Inv X pins σ H s) (t:Nat):Inv X pins σ H { s with toks:=t }:=I.un (h':=s.heap) (t':=t) Un.refl I.hok
theorem Inv.kept {t':Nat} (I:Inv X pins σ H s) (k:∀ b u,s.heap.get? b=some u→h'.get? b=some u):Inv X pins σ H { s with heap:=h',toks:=t' }:=I.un (Un.kept k) (I.hok.kept k)
theorem Inv.laid {a:Addr}{o:HO}{t':Nat} (I:Inv X pins σ H s) (k:∀ b u,s.heap.get? b=some u→h'.get? b=some u) (hp:s.heap.objs.size≤a) (new:ObjOk X.prog X.w (upd H a o) h' a o) :
  Inv X pins σ (upd H a o) { s with heap:=h',toks:=t' }:=I.un (Un.laid k hp (I.hok.fresh hp)) (I.hok.laid k hp new)
theorem Inv.write {x e:Addr}{o:HO}{t':Nat} (I:Inv X pins σ H s) (mu:Mut (H x)) (he:e=x∨H e=some (.own x)) (k:∀ b u,b≠e→s.heap.get? b=some u→h'.get? b=some u) (heo:∃ u,h'.get? e=some u)
  (new:ObjOk X.prog X.w (upd H x o) h' x o):Inv X pins σ (upd H x o) { s with heap:=h',toks:=t' }:=I.un (Un.write mu he k heo) (I.hok.write mu he k heo new)
theorem Inv.weak {σ':List (Option V)} (I:Inv X pins σ H s) (hl:σ'.length=σ.length) (w:∀ (i:Nat) v,σ'[i]?=some (some v)→σ[i]?=some (some v)):Inv X pins σ' H s :=
 ⟨I.ok,I.os,I.bare,I.base,let ⟨m,hn,hl'⟩:=I.loc; ⟨m,hn,fun i x v e1 e2 e3=>hl' i x v e1 (w i v e2) e3⟩,I.cell,I.free,I.freeC,I.pin,I.hok,hl.trans I.len⟩
theorem Inv.pins_of {pins':List (Addr × Obj)} (I:Inv X pins σ H s) (h:∀ p∈pins',s.heap.get? p.1=some p.2∧H p.1=none∧p.1≠X.env.locals∧p.1∉X.fs∧∀ v,p.2.data≠.cell v):Inv X pins' σ H s :=
 ⟨I.ok,I.os,I.bare,I.base,I.loc,I.cell,I.free,I.freeC,fun p hp=>(List.mem_append.mp hp).elim (fun z=>I.pin p (List.mem_append_left _ z)) (h p),I.hok,I.len⟩
theorem nodup_ix {N:List Str} (hN:N.Nodup) {i j:Nat}{x:Str} (a:N[i]?=some x) (b:N[j]?=some x):i=j:=by
 obtain ⟨h1,e1⟩:=List.getElem?_eq_some_iff.mp a
 obtain ⟨h2,e2⟩:=List.getElem?_eq_some_iff.mp b
 exact (List.getElem_inj hN).mp (e1.trans e2.symm)
theorem store_ok2 {M:Model}{A:Around}{E:Value→Shared→Prop}{i:Nat}{x:Str}{v:V}{u:Value}{Q:Unit→Shared→Prop} (I:Inv X pins σ H s) (hN:X.N.Nodup) (hi:X.N[i]?=some x) (hx:Loc X.env.scope x) (r:RelV v u)
  (h:∀ s',Inv X pins (σ.set i (some v)) H s'→(∃ a,Heap.SameBut a s.heap s'.heap∧(a=X.env.locals∨X.env.cells.lookup x=some a))→Q () s') (hf:X.fn x=true∨X.env.scope.names.lookup x=some .local:=by first | exact .inl rfl | exact .inr rfl | assumption):wpAny M A (storeName X.env x u) Q E s:=by
 obtain ⟨m,hn,hl⟩:=id I.loc
 have hcls:(X.env.scope.kind == .class||(X.env.scope.kind == .module&&X.env.locals != X.env.globals))=false:=by rw [I.ok.kind]; rfl
 have hiσ:i<σ.length:=by rw [I.len]; exact (List.getElem?_eq_some_iff.mp hi).1
 have cne:=I.cne
 have tracked:∀ {a:Addr}{h':Heap},(∃ o,s.heap.get? a=some o∧H a=none)→Heap.SameBut a s.heap h'→HOk X.prog X.w H h':=fun {a h'} ha hs b ob e=>by
  obtain ⟨_,_,hfree⟩:=ha
  refine (I.hok b ob e).stay (fun c w' hc q=>(hs.2 c ?_).trans q) (fun _ q=>q) fun _ _ q=>q
  rintro rfl
  rcases hc with rfl | hc
  ·rw [hfree] at e; cases e
  ·rw [hfree] at hc; cases hc
 rcases hx with hk | hk
 ·refine wpAny_storeName_local hk hn (fun h' hn' hs=>?_) hcls
  obtain ⟨oL,_,_,hoL,_⟩:=id hn
  refine h _ ⟨I.ok,I.os,I.bare,⟨fun b o e n hb hx=>?_,fun b o e n hb hx=>?_,I.base.free,fun b o e hx=>?_,I.base.tups,I.base.frzs,I.base.tbls⟩,⟨_,hn',fun j y v' e1 e2 e3=>?_⟩,fun y c e=>?_,I.free,I.freeC,fun p hp=>?_,tracked ⟨oL,hoL,I.free⟩ hs,by simpa using I.len⟩ ⟨_,hs,.inl rfl⟩
  ·exact (hs.2 b (Nat.ne_of_lt (Nat.lt_of_lt_of_le (Heap.lt_size e) I.ok.above))).trans (I.base.keep b o e n hb hx)
  ·obtain ⟨sl,e1⟩:=I.base.slot b o e n hb hx
   exact ⟨sl,(hs.2 b (Nat.ne_of_lt (Nat.lt_of_lt_of_le (Heap.lt_size e) I.ok.above))).trans e1⟩
  ·obtain ⟨o',e1⟩:=I.base.there b o e hx
   exact ⟨o',(hs.2 b (Nat.ne_of_lt (Nat.lt_of_lt_of_le (Heap.lt_size e) I.ok.above))).trans e1⟩
  ·by_cases hj:j=i
   ·subst hj
    rw [hi] at e1; cases e1
    rw [List.getElem?_set_self hiσ] at e2
    cases e2
    exact ⟨u,r,.inl ⟨hk,by simp⟩⟩
   ·rw [List.getElem?_set_ne (Ne.symm hj)] at e2
    obtain ⟨u',r',q⟩:=hl j y v' e1 e2 e3
    refine ⟨u',r',?_⟩
    rcases q with ⟨k,e⟩ | ⟨k,c,e,z⟩
    ·refine .inl ⟨k,?_⟩
     have:y≠x:=fun e=>hj (nodup_ix hN e1 (e▸hi))
     simp [this,e]
    ·exact .inr ⟨k,c,e,z.sameBut hs (cne y c e)⟩
  ·obtain ⟨w',z⟩:=I.cell y c e
   exact ⟨w',z.sameBut hs (cne y c e)⟩
  ·obtain ⟨e,n,ne,nf,d⟩:=I.pin p hp
   exact ⟨(hs.2 p.1 ne).trans e,n,ne,nf,d⟩
 ·have hfn:X.fn x=true:=by
   rcases hf with z | z
   ·exact z
   ·rw [z] at hk; cases hk
  obtain ⟨c,hc⟩:=I.ok.has x (.inl hk)
  obtain ⟨w',z⟩:=I.cell x c hc
  refine wpAny_storeName_cell I.ok.kind hk hc z (fun h' hc' hs=>?_)
  obtain ⟨oc,hoc,hocd⟩:=id z
  refine h { s with heap:=h' } ⟨I.ok,I.os,I.bare,⟨fun b o e n hb hx=>?_,fun b o e n hb hx=>?_,I.base.free,fun b o e hx=>?_,I.base.tups,I.base.frzs,I.base.tbls⟩,⟨m,hn.sameBut hs (Ne.symm (cne x c hc)),fun j y v' e1 e2 e3=>?_⟩,fun y c' e=>?_,I.free,I.freeC,fun p hp=>?_,tracked ⟨oc,hoc,I.freeC x c hc⟩ hs,by simpa using I.len⟩ ⟨c,hs,.inr hc⟩
  ·exact (hs.2 b (Nat.ne_of_lt (Nat.lt_of_lt_of_le (Heap.lt_size e) (I.ok.cab x c hfn hc)))).trans (I.base.keep b o e n hb hx)
  ·obtain ⟨sl,e1⟩:=I.base.slot b o e n hb hx
   exact ⟨sl,(hs.2 b (Nat.ne_of_lt (Nat.lt_of_lt_of_le (Heap.lt_size e) (I.ok.cab x c hfn hc)))).trans e1⟩
  ·obtain ⟨o',e1⟩:=I.base.there b o e hx
   exact ⟨o',(hs.2 b (Nat.ne_of_lt (Nat.lt_of_lt_of_le (Heap.lt_size e) (I.ok.cab x c hfn hc)))).trans e1⟩
  ·by_cases hj:j=i
   ·subst hj
    rw [hi] at e1; cases e1
    rw [List.getElem?_set_self hiσ] at e2
    cases e2
    exact ⟨u,r,.inr ⟨.inl hk,c,hc,hc'⟩⟩
   ·rw [List.getElem?_set_ne (Ne.symm hj)] at e2
    obtain ⟨u',r',q⟩:=hl j y v' e1 e2 e3
    refine ⟨u',r',?_⟩
    rcases q with q | ⟨k,c',e,z'⟩
    ·exact .inl q
    ·refine .inr ⟨k,c',e,z'.sameBut hs ?_⟩
     rintro rfl
     exact hj (nodup_ix hN e1 (I.ok.inj _ _ _ e hc▸hi))
  ·by_cases hcc:c'=c
   ·subst hcc; exact ⟨_,hc'⟩
   ·obtain ⟨w2,z2⟩:=I.cell y c' e
    exact ⟨w2,z2.sameBut hs hcc⟩
  ·obtain ⟨e,n,ne,nf,d⟩:=I.pin p hp
   refine ⟨(hs.2 p.1 ?_).trans e,n,ne,nf,d⟩
   intro q
   rw [q,hoc] at e
   have q':oc=p.2:=Option.some.inj e
   exact d w' (by rw [← q']; exact hocd)
theorem store_ok {M:Model}{A:Around}{E:Value→Shared→Prop}{i:Nat}{x:Str}{v:V}{u:Value}{Q:Unit→Shared→Prop} (I:Inv X pins σ H s) (hN:X.N.Nodup) (hi:X.N[i]?=some x) (hx:Loc X.env.scope x) (r:RelV v u)
  (h:∀ s',Inv X pins (σ.set i (some v)) H s'→Q () s') (hf:X.fn x=true∨X.env.scope.names.lookup x=some .local:=by first | exact .inl rfl | exact .inr rfl | assumption):wpAny M A (storeName X.env x u) Q E s :=
 store_ok2 I hN hi hx r (fun s' I' _=>h s' I') hf
theorem Inv.call' {s':Shared}{ch:List Addr} (I:Inv X pins σ H s) (ho:s'.os=s.os) (u:Un (frs X.stack) ch H H' s.heap s'.heap) (hok:HOk X.prog X.w H' s'.heap) (hg:AllBare s'.gens)
  (hch:∀ b∈ch,(b∈X.ex∨X.s₀.heap.objs.size≤b)∧b≠X.env.locals∧(∀ x c,X.env.cells.lookup x=some c→c≠b)∧∀ p∈X.pn++pins,p.1≠b):Inv X pins σ H' s':=by
 obtain ⟨h',g',d',t',o'⟩:=s'
 have e:o'=s.os:=ho
 subst e
 exact I.call (g':=g') (t':=t') (d':=d') u hok hg hch
end
noncomputable abbrev XK:=Value→Option Addr→Hp→Prop
noncomputable abbrev St:=List (Option V)
noncomputable abbrev VK:=V→Hp→Prop
noncomputable abbrev TE:=St→Hp→VK→Prop
noncomputable abbrev TT:=St→Hp→(Bool→Hp→Prop)→Prop
noncomputable abbrev TA:=St→Hp→(List V→Hp→Prop)→Prop
structure Ends where
 nx:St→Hp→Prop
 rt:VK
 bk:St→Hp→Prop:=fun _ _=>False
 ct:St→Hp→Prop:=fun _ _=>False
noncomputable abbrev TS:=Ends→St→Hp→Prop
inductive EP (X:Cx) (pins:List (Addr × Obj)) (σ:St) (Q:VK) (u:Value) (s':Shared):Prop
 | mk (v:V) (H':Hp) (I:Inv X pins σ H' s') (r:RelV v u) (q:Q v H')
inductive TP (X:Cx) (pins:List (Addr × Obj)) (σ:St) (Q:Bool→Hp→Prop) (b:Bool) (s':Shared):Prop
 | mk (H':Hp) (I:Inv X pins σ H' s') (q:Q b H')
inductive AP (X:Cx) (pins:List (Addr × Obj)) (σ:St) (Q:List V→Hp→Prop) (us:List Value) (s':Shared):Prop
 | mk (vs:List V) (H':Hp) (I:Inv X pins σ H' s') (r:Vals vs us) (q:Q vs H')
def SP (X:Cx) (pins:List (Addr × Obj)) (D:Ends) (f:Flow) (s':Shared):Prop :=
 match f with
 | .next=>∃ σ' H',Inv X pins σ' H' s'∧D.nx σ' H'
 | .brk=>∃ σ' H',Inv X pins σ' H' s'∧D.bk σ' H'
 | .cont=>∃ σ' H',Inv X pins σ' H' s'∧D.ct σ' H'
 | .ret u=>∃ v σ' H',Inv X pins σ' H' s'∧RelV v u∧D.rt v H'
def PE (X:Cx) (e:Expr) (t:TE):Prop :=
 ∀ (pins:List (Addr × Obj)) (s:Shared) (σ:St) (H:Hp) (Q:VK),Inv X pins σ H s→t σ H Q→wpAny (model X.prog X.w) X.A (eval e X.env) (EP X pins σ Q) X.xe s
def PT (X:Cx) (e:Expr) (t:TT):Prop :=
 ∀ (pins:List (Addr × Obj)) (s:Shared) (σ:St) (H:Hp) (Q:Bool→Hp→Prop),Inv X pins σ H s→t σ H Q→wpAny (model X.prog X.w) X.A (isTrue e X.env (eval e X.env)) (TP X pins σ Q) X.xe s
def PW (X:Cx) (e:Expr) (t:TT):Prop :=
 ∀ (whole:Sem Value) (pins:List (Addr × Obj)) (s:Shared) (σ:St) (H:Hp) (Q:Bool→Hp→Prop),Inv X pins σ H s→t σ H Q→wpAny (model X.prog X.w) X.A (isTrue e X.env whole) (TP X pins σ Q) X.xe s
theorem PW.pt {X:Cx}{e:Expr}{t:TT} (h:PW X e t):PT X e t:=h _
def PA (X:Cx) (es:List Expr) (t:TA):Prop :=
 ∀ (pos:Pos) (pins:List (Addr × Obj)) (s:Shared) (σ:St) (H:Hp) (Q:List V→Hp→Prop),Inv X pins σ H s→t σ H Q→wpAny (model X.prog X.w) X.A (spliced (backTo pos (starEach es X.env))) (AP X pins σ Q) X.xe s
def PS (X:Cx) (st:Stmt) (t:TS):Prop :=
 ∀ (pins:List (Addr × Obj)) (s:Shared) (σ:St) (H:Hp) (D:Ends),Inv X pins σ H s→t D σ H→wpAny (model X.prog X.w) X.A (exec st X.env) (SP X pins D) X.xe s
def PSs (X:Cx) (st:List Stmt) (t:TS):Prop :=
 ∀ (pins:List (Addr × Obj)) (s:Shared) (σ:St) (H:Hp) (D:Ends),Inv X pins σ H s→t D σ H→wpAny (model X.prog X.w) X.A (execs st X.env) (SP X pins D) X.xe s
theorem thn {α:Type}{t:Sem α}{Q Q':α→Shared→Prop}{M:Model}{A:Around}{E:Value→Shared→Prop}{s:Shared} (h:wpAny M A t Q E s) (hQ:∀ a s,Q a s→Q' a s):wpAny M A t Q' E s:=wpAny_mono h hQ fun _ _ x=>x
section
variable {X:Cx}
noncomputable def tVar (i:Nat):TE:=fun σ H Q=>∃ v,σ[i]?=some (some v)∧Q v H
noncomputable def tC (v:V):TE:=fun _ H Q=>Q v H
theorem pe_var {i:Nat}{x:Str}{pos:Pos} (hN:X.N[i]?=some x) (hv:Vis X.env.scope x) (hd:(x == ("__debug__":Str))=false:=by decide) (hcd:(x == ("__classdict__":Str))=false:=by decide):PE X (.Name x pos) (tVar i):=by
 intro pins s σ H Q I h
 obtain ⟨v,e,h⟩:=h
 obtain ⟨m,hn,hl⟩:=I.loc
 obtain ⟨u,r,l⟩:=hl i x v hN e hv
 have fin:EP X pins σ Q u s:=⟨v,H,I,r,h⟩
 rcases l with ⟨hk,hm⟩ | ⟨hk,c,hc,hcell⟩
 ·exact wpAny_Name (wpAny_loadName_local I.ok.kind hk hn hm fin) hd
 ·rcases hk with hk | hk
  ·exact wpAny_Name (wpAny_loadName_cell I.ok.kind hk hc hcell fin) hd
  ·exact wpAny_Name (wpAny_loadName_free I.ok.kind hk hc hcell fin hcd) hd
theorem pe_int {i j pos}:PE X (.Constant (.int i) j pos) (tC (.int i)):=fun _ _ _ H _ I h=>wpAny_Constant_int ⟨.int i,H,I.tok _,⟨_,rfl⟩,h⟩
theorem pe_bl {b j pos}:PE X (.Constant (.bool b) j pos) (tC (.bl b)):=fun _ _ _ H _ I h=>Constant_bool ⟨.bl b,H,I,rfl,h⟩
theorem pe_non {j pos}:PE X (.Constant .none j pos) (tC .non):=fun _ _ _ H _ I h=>Constant_none ⟨.non,H,I,rfl,h⟩
theorem pe_str {x j pos}:PE X (.Constant (.str x) j pos) (tC (.str x)):=fun _ _ _ H _ I h=>Calls.Constant_str ⟨.str x,H,I.tok _,⟨_,rfl⟩,h⟩
def Gl (X:Cx) (x:Str):Prop:=X.env.kindOf x=some .globalImplicit
theorem ld_glob {E:Value→Shared→Prop}{pins:List (Addr × Obj)}{s:Shared}{σ:St}{H:Hp}{x:Str}{u:Value}{pos:Pos}{Q:Value→Shared→Prop} (I:Inv X pins σ H s) (hg:Gl X x) (hm:X.mg x=some u) (h:Q u s)
  (hd:(x == ("__debug__":Str))=false:=by decide):wpAny (model X.prog X.w) X.A (eval (.Name x pos) X.env) Q E s :=
 Calls.Name_function_global I.ok.kind hg (Calls.loadGlobal_global (by rw [I.ok.glob]; exact I.mod.glob.keeps I.bk) hm h) hd
theorem ld_blt {E:Value→Shared→Prop}{pins:List (Addr × Obj)}{s:Shared}{σ:St}{H:Hp}{x:Str}{u:Value}{pos:Pos}{Q:Value→Shared→Prop} (I:Inv X pins σ H s) (hg:Gl X x) (hm:X.mg x=none) (hv:bootBuiltins x=some u) (h:Q u s)
  (hn:x ≠ "__name__":=by decide) (hd:(x == ("__debug__":Str))=false:=by decide):wpAny (model X.prog X.w) X.A (eval (.Name x pos) X.env) Q E s:=by
 obtain ⟨mb,h1,h2⟩:=I.mod.blt
 exact Calls.Name_function_global I.ok.kind hg (Calls.loadGlobal_builtin (by rw [I.ok.glob]; exact I.mod.glob.keeps I.bk) hm (by rw [I.ok.blt]; exact h1.keeps I.bk) ((h2 x hn).trans hv) h) hd
theorem pe_glob {x:Str}{v:V}{u:Value}{pos:Pos} (hg:Gl X x) (hm:X.mg x=some u) (r:RelV v u) (hd:(x == ("__debug__":Str))=false:=by decide):PE X (.Name x pos) (tC v) :=
 fun _ _ _ H _ I h=>ld_glob I hg hm ⟨v,H,I,r,h⟩ hd
theorem pe_bltn {x:Str}{v:V}{u:Value}{pos:Pos} (hg:Gl X x) (hm:X.mg x=none) (hv:bootBuiltins x=some u) (r:RelV v u) (hn:x ≠ "__name__":=by decide) (hd:(x == ("__debug__":Str))=false:=by decide):PE X (.Name x pos) (tC v) :=
 fun _ _ _ H _ I h=>ld_blt I hg hm hv ⟨v,H,I,r,h⟩ hn hd
variable {a b:Expr}{ta tb:TE}{pos:Pos}
variable {tA tB':TT}{rest:List Expr}
noncomputable def tAnd (t u:TT):TT:=fun σ H Q=>t σ H fun c H1=>if c=true then u σ H1 Q else Q false H1
noncomputable def tOr (t u:TT):TT:=fun σ H Q=>t σ H fun c H1=>if c=true then Q true H1 else u σ H1 Q
noncomputable def tNot (t:TT):TT:=fun σ H Q=>t σ H fun c H1=>Q (!c) H1
theorem pw_and1 (ha:PT X a tA):PW X (.BoolOp .And [a] pos) tA:=by
 intro wh pins s σ H Q I h
 refine isTrue_and (thn (ha pins s σ H Q I h) fun c s1 e=>?_)
 cases c with
 | true=>exact isTrue_and_nil e
 | false=>exact e
theorem pw_or1 (ha:PT X a tA):PW X (.BoolOp .Or [a] pos) tA:=by
 intro wh pins s σ H Q I h
 refine isTrue_or (thn (ha pins s σ H Q I h) fun c s1 e=>?_)
 cases c with
 | false=>exact isTrue_or_nil e
 | true=>exact e
theorem pw_and (ha:PT X a tA) (hb:PW X (.BoolOp .And (b::rest) pos) tB'):PW X (.BoolOp .And (a::b::rest) pos) (tAnd tA tB'):=by
 intro wh pins s σ H Q I h
 refine isTrue_and (thn (ha pins s σ H _ I h) fun c s1 ⟨H1,I1,q1⟩=>?_)
 cases c with
 | true=>exact hb wh pins s1 σ H1 Q I1 q1
 | false=>exact ⟨H1,I1,q1⟩
theorem pw_or (ha:PT X a tA) (hb:PW X (.BoolOp .Or (b::rest) pos) tB'):PW X (.BoolOp .Or (a::b::rest) pos) (tOr tA tB'):=by
 intro wh pins s σ H Q I h
 refine isTrue_or (thn (ha pins s σ H _ I h) fun c s1 ⟨H1,I1,q1⟩=>?_)
 cases c with
 | true=>exact ⟨H1,I1,q1⟩
 | false=>exact hb wh pins s1 σ H1 Q I1 q1
theorem pt_not (ha:PT X a tA):PT X (.UnaryOp .Not a pos) (tNot tA):=by
 intro pins s σ H Q I h
 exact isTrue_not (thn (ha pins s σ H (fun c H1=>Q (!c) H1) I h) fun c s' ⟨H',I',q⟩=>⟨H',I',q⟩)
noncomputable def tAndV (ta tb:TE):TE:=fun σ H Q=>ta σ H fun x H1=>∃ c,x=.bl c∧if c=true then tb σ H1 Q else Q (.bl false) H1
noncomputable def tOrV (ta tb:TE):TE:=fun σ H Q=>ta σ H fun x H1=>∃ c,x=.bl c∧if c=true then Q (.bl true) H1 else tb σ H1 Q
noncomputable def tNotV (ta:TE):TE:=fun σ H Q=>ta σ H fun x H1=>∃ c,x=.bl c∧Q (.bl (!c)) H1
theorem pe_one {op}{t:TE} (h:PE X a t):PE X (.BoolOp op [a] pos) t:=fun pins s σ H Q I hw=>BoolOp_one (h pins s σ H Q I hw)
theorem pe_and (ha:PE X a ta) (hb:PE X (.BoolOp .And (b::rest) pos) tb):PE X (.BoolOp .And (a::b::rest) pos) (tAndV ta tb):=by
 intro pins s σ H Q I h
 refine BoolOp_and (thn (ha pins s σ H _ I h) fun v s1 ⟨x,H1,I1,r1,q1⟩=>?_)
 obtain ⟨c,rfl,q1⟩:=q1
 cases r1
 refine wpAny_truthy_bool ?_
 cases c with
 | true=>exact hb pins s1 σ H1 Q I1 q1
 | false=>exact ⟨.bl false,H1,I1,rfl,q1⟩
theorem pe_or (ha:PE X a ta) (hb:PE X (.BoolOp .Or (b::rest) pos) tb):PE X (.BoolOp .Or (a::b::rest) pos) (tOrV ta tb):=by
 intro pins s σ H Q I h
 refine BoolOp_or (thn (ha pins s σ H _ I h) fun v s1 ⟨x,H1,I1,r1,q1⟩=>?_)
 obtain ⟨c,rfl,q1⟩:=q1
 cases r1
 refine wpAny_truthy_bool ?_
 cases c with
 | false=>exact hb pins s1 σ H1 Q I1 q1
 | true=>exact ⟨.bl true,H1,I1,rfl,q1⟩
theorem pe_not (ha:PE X a ta):PE X (.UnaryOp .Not a pos) (tNotV ta):=by
 intro pins s σ H Q I h
 refine UnaryOp_ (thn (ha pins s σ H _ I h) fun v s1 ⟨x,H1,I1,r1,q1⟩=>?_)
 obtain ⟨c,rfl,q1⟩:=q1
 cases r1
 exact not_of (wpAny_truthy_bool ⟨.bl (!c),H1,I1,rfl,q1⟩)
noncomputable def tIf (t:TT) (ta tb:TE):TE:=fun σ H Q=>t σ H fun c H1=>if c=true then ta σ H1 Q else tb σ H1 Q
theorem pe_ifExp {c:Expr} (hc:PT X c tA) (ha:PE X a ta) (hb:PE X b tb):PE X (.IfExp c a b pos) (tIf tA ta tb):=by
 intro pins s σ H Q I h
 refine wpAny_IfExp (thn (hc pins s σ H _ I h) fun d s1 ⟨H1,I1,q1⟩=>?_)
 cases d with
 | true=>exact ha pins s1 σ H1 Q I1 q1
 | false=>exact hb pins s1 σ H1 Q I1 q1
end
def SqL (K:W.Frag) (H:Hp) (a:Addr) (xs:List V):Prop :=
 Rd H a (.lst xs) ∨
  ∃ (o:Obj) (its:Array Value) (n:Nat),K.lookup a=some o∧o.cls=.type "list"∧o.dict=none∧o.data=.seq its n∧its.size≤sizeLine∧Vals xs its.toList
def SqT (K:W.Frag) (H:Hp) (a:Addr) (xs:List V):Prop :=
 Rd H a (.tup xs) ∨
  ∃ (o:Obj) (its:Array Value) (n:Nat),K.lookup a=some o∧o.cls=.type "tuple"∧o.data=.seq its n∧its.size≤sizeLine∧Vals xs its.toList
noncomputable def absV:Value→Option V
 | .none=>some .non
 | .bool b=>some (.bl b)
 | .int i _=>some (.int i)
 | .str x _=>some (.str x)
 | .bytes b _=>some (.byt b)
 | .float b _=>some (.flt b)
 | .ref a=>some (.ref a)
 | .type n=>some (.ty n)
 | _=>none
theorem RelV.abs {x:V}{u:Value} (r:RelV x u):absV u=some x:=by
 cases x with
 | non=>cases r; rfl
 | bl _=>cases r; rfl
 | int _=>obtain ⟨t,rfl⟩:=r; rfl
 | str _=>obtain ⟨t,rfl⟩:=r; rfl
 | byt _=>obtain ⟨t,rfl⟩:=r; rfl
 | flt _=>obtain ⟨t,rfl⟩:=r; rfl
 | ref _=>cases r; rfl
 | ty _=>cases r; rfl
theorem RelV.inj {x y:V}{u:Value} (r:RelV x u) (q:RelV y u):x=y:=Option.some.inj (r.abs.symm.trans q.abs)
theorem Vals.inj:∀ {xs ys:List V}{us:List Value},Vals xs us→Vals ys us→xs=ys
 | _,_,_,.nil,.nil=>rfl
 | _,_,_,.cons r t,.cons r' t'=>by rw [r.inj r',Vals.inj t t']
section
variable {X:Cx}{pins:List (Addr × Obj)}{σ:St}{H:Hp}{s:Shared}{a:Addr}{xs ys:List V}
theorem SqL.of {K:W.Frag} (h:H a=some (.lst xs)):SqL K H a xs:=.inl (.inl h)
theorem SqT.of {K:W.Frag} (h:H a=some (.tup xs)):SqT K H a xs:=.inl (.inl h)
theorem Inv.list (I:Inv X pins σ H s) (h:SqL X.K H a xs):∃ its:List Value,Vals xs its∧PlainL s.heap a its.toArray∧xs.length≤sizeLine:=by
 rcases h with h | ⟨o,its,n,hk,hc,hd,hs,hz,r⟩
 ·obtain ⟨z,its,n,r,e⟩:=h.ok I.hok
  exact ⟨its,r,⟨_,n,e,rfl,rfl,rfl⟩,z⟩
 ·refine ⟨its.toList,r,⟨o,n,I.kIn a o hk,hc,hd,by simpa using hs⟩,?_⟩
  have e:=r.length
  simp only [Array.length_toList] at e
  omega
theorem Inv.tuple (I:Inv X pins σ H s) (h:SqT X.K H a xs):∃ its:List Value,Vals xs its∧IsTup s.heap a its.toArray∧xs.length≤sizeLine:=by
 rcases h with h | ⟨o,its,n,hk,hc,hs,hz,r⟩
 ·obtain ⟨z,its,r,p⟩:=h.ok I.hok
  exact ⟨its,r,p,z⟩
 ·refine ⟨its.toList,r,⟨o,I.kIn a o hk,hc,n,by simpa using hs⟩,?_⟩
  have e:=r.length
  simp only [Array.length_toList] at e
  omega
theorem Inv.list_inj (I:Inv X pins σ H s) (h:SqL X.K H a xs) (h':SqL X.K H a ys):xs=ys:=by
 obtain ⟨its,r,⟨o,n,e,_,_,d⟩,_⟩:=I.list h
 obtain ⟨its',r',⟨o',n',e',_,_,d'⟩,_⟩:=I.list h'
 rw [e] at e'; cases e'
 rw [d] at d'
 injection d' with d1 _
 have:its=its':=by simpa using congrArg Array.toList d1
 subst this
 exact r.inj r'
theorem Inv.tuple_inj (I:Inv X pins σ H s) (h:SqT X.K H a xs) (h':SqT X.K H a ys):xs=ys:=by
 obtain ⟨its,r,⟨o,e,_,n,d⟩,_⟩:=I.tuple h
 obtain ⟨its',r',⟨o',e',_,n',d'⟩,_⟩:=I.tuple h'
 rw [e] at e'; cases e'
 rw [d] at d'
 injection d' with d1 _
 have:its=its':=by simpa using congrArg Array.toList d1
 subst this
 exact r.inj r'
end
noncomputable abbrev Cx.wish (X:Cx) (E:Value→Shared→Prop):Cx:={ X with xe:=E }
noncomputable abbrev Cx.nox (X:Cx):Cx:=X.wish fun _ _=>False
theorem Cx.Ok.wish {X:Cx} (ok:X.Ok) (E:Value→Shared→Prop):(X.wish E).Ok :=
 ⟨ok.mod,ok.kind,ok.glob,ok.blt,ok.above,ok.inj,ok.has,ok.cab,ok.hd,ok.frames,ok.stk,ok.exf,ok.bs,ok.bsz,ok.noex,ok.exfs,ok.funs,ok.frf⟩
theorem Cx.Ok.unwish {X:Cx}{E:Value→Shared→Prop} (ok:(X.wish E).Ok):X.Ok :=
 ⟨ok.mod,ok.kind,ok.glob,ok.blt,ok.above,ok.inj,ok.has,ok.cab,ok.hd,ok.frames,ok.stk,ok.exf,ok.bs,ok.bsz,ok.noex,ok.exfs,ok.funs,ok.frf⟩
section
variable {X:Cx}{pins:List (Addr × Obj)}{σ:St}{H:Hp}{s:Shared}{E:Value→Shared→Prop}
theorem Inv.wish (I:Inv X pins σ H s) (E:Value→Shared→Prop):Inv (X.wish E) pins σ H s:=⟨I.ok.wish E,I.os,I.bare,I.base,I.loc,I.cell,I.free,I.freeC,I.pin,I.hok,I.len⟩
theorem Inv.unwish (I:Inv (X.wish E) pins σ H s):Inv X pins σ H s:=⟨I.ok.unwish,I.os,I.bare,I.base,I.loc,I.cell,I.free,I.freeC,I.pin,I.hok,I.len⟩
theorem SP.unwish {D:Ends}{f:Flow}{s':Shared} (h:SP (X.wish E) pins D f s'):SP X pins D f s':=by
 cases f with
 | next=>obtain ⟨σ',H',I,q⟩:=h; exact ⟨σ',H',I.unwish,q⟩
 | brk=>obtain ⟨σ',H',I,q⟩:=h; exact ⟨σ',H',I.unwish,q⟩
 | cont=>obtain ⟨σ',H',I,q⟩:=h; exact ⟨σ',H',I.unwish,q⟩
 | ret u=>obtain ⟨v,σ',H',I,r,q⟩:=h; exact ⟨v,σ',H',I.unwish,r,q⟩
theorem PSs.nox {st:List Stmt}{t:TS} (h:PSs X.nox st t):PSs X st t:=fun pins s σ H D I hw =>
 wpAny_mono (h pins s σ H D (I.wish _) hw) (fun _ _ q=>q.unwish) fun _ _ z=>False.elim z
end
section
variable {X:Cx}{st:Stmt}{rest:List Stmt}{t u:TS}{e:Expr}{te:TE}{pos:Pos}
noncomputable def tNext:TS:=fun D σ H=>D.nx σ H
noncomputable def tSeq (t u:TS):TS:=fun D σ H=>t { D with nx:=u D } σ H
theorem pss_nil:PSs X [] tNext:=fun _ _ σ H _ I h=>wpAny_execs_nil ⟨σ,H,I,h⟩
theorem pss_cons (h1:PS X st t) (h2:PSs X rest u):PSs X (st::rest) (tSeq t u):=by
 intro pins s σ H D I h
 refine wpAny_execs_cons (thn (h1 pins s σ H { D with nx:=u D } I h) fun f s1 q=>?_)
 cases f with
 | next =>
  obtain ⟨σ',H',I',q⟩:=q
  exact h2 pins s1 σ' H' D I' q
 | ret v=>exact q
 | brk=>exact q
 | cont=>exact q
noncomputable def tBreak:TS:=fun D σ H=>D.bk σ H
noncomputable def tCont:TS:=fun D σ H=>D.ct σ H
theorem ps_pass:PS X (.Pass pos) tNext:=fun _ _ σ H _ I h=>wpAny_Pass ⟨σ,H,I,h⟩
theorem ps_break:PS X (.Break pos) tBreak:=fun _ _ σ H _ I h=>wpAny_Break ⟨σ,H,I,h⟩
theorem ps_continue:PS X (.Continue pos) tCont:=fun _ _ σ H _ I h=>wpAny_Continue ⟨σ,H,I,h⟩
theorem Inv.quiet {pins:List (Addr × Obj)}{σ:St}{H:Hp}{s:Shared} (I:Inv X pins σ H s):interactive X.env=false:=by simp [interactive,I.ok.kind]
noncomputable def tDrop (te:TE):TS:=fun D σ H=>te σ H fun _ H1=>D.nx σ H1
theorem ps_expr (he:PE X e te) (hs:swapsWith e none pos.line X.env=pure false:=by rfl):PS X (.Expr e pos) (tDrop te):=by
 intro pins s σ H D I h
 exact wpAny_Expr_any (thn (he pins s σ H _ I h) fun v s1 ⟨x,H1,I1,r1,q1⟩=>⟨σ,H1,I1,q1⟩) I.quiet hs
noncomputable def tRet (te:TE):TS:=fun D σ H=>te σ H D.rt
theorem ps_ret (he:PE X e te):PS X (.Return (some e) pos) (tRet te):=by
 intro pins s σ H D I h
 exact wpAny_Return_some (thn (he pins s σ H _ I h) fun v s1 ⟨x,H1,I1,r1,q1⟩=>⟨x,σ,H1,I1,r1,q1⟩)
noncomputable def tRetN:TS:=fun D _ H=>D.rt .non H
theorem ps_retN:PS X (.Return none pos) tRetN:=fun _ _ σ H _ I h=>wpAny_Return_none ⟨.non,σ,H,I,rfl,h⟩
noncomputable def tIfS (c:TT) (t u:TS):TS:=fun D σ H=>c σ H fun b H1=>if b=true then t D σ H1 else u D σ H1
theorem ps_if {c:Expr}{a b:List Stmt}{tc:TT} (hc:PT X c tc) (ha:PSs X a t) (hb:PSs X b u):PS X (.If c a b pos) (tIfS tc t u):=by
 intro pins s σ H D I h
 refine wpAny_If (thn (hc pins s σ H _ I h) fun d s1 ⟨H1,I1,q1⟩=>?_)
 cases d with
 | true=>exact ha pins s1 σ H1 D I1 q1
 | false=>exact hb pins s1 σ H1 D I1 q1
noncomputable def tNever:TS:=fun _ _ _=>False
theorem ps_never:PS X st tNever:=fun _ _ _ _ _ _ h=>h.elim
end
noncomputable abbrev TG:=V→St→Hp→(St→Hp→Prop)→Prop
noncomputable abbrev TGs:=List V→St→Hp→(St→Hp→Prop)→Prop
def PG (X:Cx) (target:Expr) (t:TG):Prop :=
 ∀ (pins:List (Addr × Obj)) (s:Shared) (σ:St) (H:Hp) (v:V) (u:Value) (Q:St→Hp→Prop),Inv X pins σ H s→RelV v u→t v σ H Q →
  wpAny (model X.prog X.w) X.A (assign target X.env u) (fun _ s'=>∃ σ' H',Inv X pins σ' H' s'∧Q σ' H') X.xe s
def PGs (X:Cx) (ts:List Expr) (t:TGs):Prop :=
 ∀ (pins:List (Addr × Obj)) (s:Shared) (σ:St) (H:Hp) (vs:List V) (us:List Value) (Q:St→Hp→Prop),Inv X pins σ H s→Vals vs us→t vs σ H Q →
  wpAny (model X.prog X.w) X.A (assignInOrder ((assignEach ts X.env).map (·.2)) us) (fun _ s'=>∃ σ' H',Inv X pins σ' H' s'∧Q σ' H') X.xe s
noncomputable abbrev TSet:=V→V→V→Hp→(Hp→Prop)→Prop
def PSet (X:Cx) (t:TSet):Prop :=
 ∀ (pins:List (Addr × Obj)) (s:Shared) (σ:St) (H:Hp) (o i v:V) (ov iv u:Value) (Q:Hp→Prop),Inv X pins σ H s→RelV o ov→RelV i iv→RelV v u→t o i v H Q →
  wpAny (model X.prog X.w) X.A (setItem ov iv u) (fun _ s'=>∃ H',Inv X pins σ H' s'∧Q H') X.xe s
section
variable {X:Cx}{pos:Pos}
noncomputable def gName (i:Nat):TG:=fun v σ H Q=>Q (σ.set i (some v)) H
theorem pg_name {i:Nat}{x:Str} (hN:X.N.Nodup) (hi:X.N[i]?=some x) (hx:Loc X.env.scope x) (hf:X.fn x=true∨X.env.scope.names.lookup x=some .local:=by first | exact .inl rfl | exact .inr rfl | assumption):PG X (.Name x pos) (gName i):=by
 intro pins s σ H v u Q I r h
 exact wpAny_assign_Name (store_ok I hN hi hx r (fun s' I'=>⟨_,H,I',h⟩) hf)
noncomputable def gNil:TGs:=fun vs σ H Q=>vs=[]∧Q σ H
noncomputable def gCons (t:TG) (u:TGs):TGs:=fun vs σ H Q=>∃ v r,vs=v::r∧t v σ H fun σ' H'=>u r σ' H' Q
theorem pgs_nil:PGs X [] gNil:=by
 intro pins s σ H vs us Q I r h
 obtain ⟨e,h⟩:=h
 subst e
 cases r
 exact assignInOrder_nil ⟨σ,H,I,h⟩
theorem pgs_cons {e:Expr}{es:List Expr}{t:TG}{u:TGs} (h1:PG X e t) (h2:PGs X es u)
  (hs:(assignEach (e::es) X.env).map (·.2)=assign e X.env::(assignEach es X.env).map (·.2):=by rfl):PGs X (e::es) (gCons t u):=by
 intro pins s σ H vs us Q I r h
 obtain ⟨v,vr,e1,h⟩:=h
 subst e1
 cases r with
 | cons r rr =>
  rw [hs]
  refine assignInOrder_cons (thn (h1 pins s σ H _ _ _ I r h) fun _ s1 ⟨σ1,H1,I1,q1⟩=>?_)
  exact h2 pins s1 σ1 H1 _ _ Q I1 rr q1
noncomputable def gTup (K:W.Frag) (n:Nat) (t:TGs):TG:=fun v σ H Q=>∃ a xs,v=.ref a∧SqT K H a xs∧xs.length=n∧t xs σ H Q
theorem pg_tup {es:List Expr}{k:Nat}{t:TGs}{n:Nat} (hc:X.calm=true) (h:PGs X es t)
  (hn:(assignEach es X.env).length=n:=by rfl) (hst:(assignEach es X.env).findIdx? (·.1)=none:=by rfl):PG X (.Tuple es k pos) (gTup X.K n t):=by
 intro pins s σ H v u Q I r hw
 obtain ⟨a,xs,e1,hq,hl,hw⟩:=hw
 subst e1
 cases r
 obtain ⟨its,rv,ht,hz⟩:=I.tuple hq
 refine assign_Tuple_tuple (I.ok.hd hc) ht (by simp [hn,← hl,rv.length]) hst fun h' hx=>?_
 have I1:Inv X pins σ H { s with heap:=h' }:=I.kept (t':=s.toks) fun b o e=>hx b o (Nat.ne_of_lt (Heap.lt_size e)) e
 exact h pins _ σ H xs _ Q I1 (by simpa using rv) hw
noncomputable def gSub (to ti:TE) (t:TSet):TG:=fun v σ H Q=>to σ H fun o H1=>ti σ H1 fun i H2=>t o i v H2 fun H3=>Q σ H3
theorem pg_sub {o i:Expr}{to ti:TE}{t:TSet} (ho:PE X o to) (hi:PE X i ti) (hs:PSet X t)
  (ha:∀ v,assign (.Subscript o i pos) X.env v=(do
   let ov ← holding [v] (eval o X.env)
   let iv ← holding [v,ov] (eval i X.env)
   standAt pos
   holding [v,ov,iv] (setItem ov iv v)
   release [v,ov,iv] []):=by intro _; rfl):PG X (.Subscript o i pos) (gSub to ti t):=by
 intro pins s σ H v u Q I r h
 rw [ha]
 refine wpAny_bind (wpAny_holding (thn (ho pins s σ H _ I h) fun ov s1 ⟨x,H1,I1,r1,q1⟩=>?_))
 refine wpAny_bind (wpAny_holding (thn (hi pins s1 σ H1 _ I1 q1) fun iv s2 ⟨y,H2,I2,r2,q2⟩=>?_))
 refine wpAny_bind (wpAny_standAt (wpAny_bind (wpAny_holding (thn (hs pins s2 σ H2 x y v ov iv u _ I2 r1 r2 r q2) fun _ s3 ⟨H3,I3,q3⟩=>?_))))
 exact wpAny_release ⟨σ,H3,I3,q3⟩
noncomputable def tAsg (te:TE) (g:TG):TS:=fun D σ H=>te σ H fun x H1=>g x σ H1 D.nx
theorem ps_asg {tg e:Expr}{te:TE}{g:TG} (he:PE X e te) (hg:PG X tg g) (hs:swapsWithSole [tg] e pos.line X.env=pure false:=by rfl) (hw:swappedStores [tg] e X.env=pure none:=by rfl)
  (h1:(assignEach [tg] X.env).map (·.2)=[assign tg X.env]:=by rfl):PS X (.Assign [tg] e pos) (tAsg te g):=by
 intro pins s σ H D I h
 refine wpAny_Assign_stores (thn (he pins s σ H _ I h) fun v s1 ⟨x,H1,I1,r1,q1⟩=>?_) hs hw
 rw [h1]
 exact thn (hg pins s1 σ H1 x v _ I1 r1 q1) fun _ s2 q=>q
end
section
variable {X:Cx}{pos:Pos}
noncomputable def tWhile (c:TT) (tb:TS):TS:=fun D σ H=>∃ W:Nat→St→Hp→Prop,(∃ m,W m σ H)∧∀ m σ H,W m σ H →
 c σ H fun b H1=>if b=true then ∃ N:St→Hp→Prop,(∀ σ' H',N σ' H'→∃ m',m'<m∧W m' σ' H')∧tb { D with nx:=N,ct:=N,bk:=D.nx } σ H1 else D.nx σ H1
theorem ps_while {c:Expr}{body:List Stmt}{tc:TT}{tb:TS} (hp:PassesOwn (model X.prog X.w) X.A X.env X.xe) (hc:PT X c tc) (hb:PSs X body tb):PS X (.While c body [] pos) (tWhile tc tb):=by
 intro pins s σ H D I h
 obtain ⟨W,⟨m0,w0⟩,turn⟩:=h
 refine wpAny_While (codeAny_whileLoop (fun n s'=>∃ σ' H',Inv X pins σ' H' s'∧W n σ' H') ?_ m0 ⟨σ,H,I,w0⟩)
 rintro n s1 ⟨σ1,H1,I1,w1⟩
 refine wpAny_passesOwn hp (thn (hc pins s1 σ1 H1 _ I1 (turn n σ1 H1 w1)) fun b s2 ⟨H2,I2,q2⟩=>?_)
 cases b with
 | true =>
  obtain ⟨N,hN,q2⟩:=q2
  rw [if_pos rfl]
  refine wpAny_passesOwn hp (thn (hb pins s2 σ1 H2 _ I2 q2) fun f s3 q3=>?_)
  cases f with
  | next =>
   obtain ⟨σ3,H3,I3,n3⟩:=q3
   obtain ⟨m',hm,w3⟩:=hN σ3 H3 n3
   exact ⟨m',hm,σ3,H3,I3,w3⟩
  | cont =>
   obtain ⟨σ3,H3,I3,n3⟩:=q3
   obtain ⟨m',hm,w3⟩:=hN σ3 H3 n3
   exact ⟨m',hm,σ3,H3,I3,w3⟩
  | brk=>exact q3
  | ret v=>exact q3
 | false =>
  rw [if_neg Bool.false_ne_true]
  exact wpAny_execs_nil ⟨σ1,H2,I2,q2⟩
end
structure It where
 go:Nat→Hp→Prop
 yld:Nat→Hp→V→Hp→Prop
 stop:Nat→Hp→Prop
def FpOk (X:Cx) (pins:List (Addr × Obj)) (H:Hp) (b:Addr):Prop :=
 H b=none∧b≠X.env.locals∧b∉X.fs∧(b∈X.ex∨X.s₀.heap.objs.size≤b)∧(∀ x c,X.env.cells.lookup x=some c→c≠b)∧∀ p∈X.pn++pins,p.1≠b
theorem Inv.fpOk {X:Cx}{pins:List (Addr × Obj)}{σ:St}{H H':Hp}{s:Shared}{b:Addr} (I:Inv X pins σ H s) (hb:s.heap.objs.size≤b) (hn:H' b=none):FpOk X pins H' b:=by
 refine ⟨hn,Nat.ne_of_gt (Nat.lt_of_lt_of_le I.lt hb),I.nofs hb,.inr (Nat.le_trans I.sz hb),fun x c e z=>?_,fun p hp z=>?_⟩
 ·obtain ⟨v,q⟩:=I.cell x c e
  exact absurd (Nat.lt_of_lt_of_le q.lt (by rw [z]; exact hb)) (Nat.lt_irrefl _)
 ·exact absurd (Nat.lt_of_lt_of_le (Heap.lt_size (I.pin p hp).1) (by rw [z]; exact hb)) (Nat.lt_irrefl _)
structure Turn (P:Program) (w:World) (K:W.Frag) (tg:Expr) (J:It) (fp:List Addr) (it:Addr) (tn:Nat→Heap→Prop):Prop where
 mem:it∈fp
 obj:∀ i h,tn i h→∀ b∈fp,∃ o,h.get? b=some o∧∀ v,o.data≠.cell v
 keep:∀ i h h',tn i h→(∀ b∈fp,∀ o,h.get? b=some o→h'.get? b=some o)→tn i h'
 item:∀ (X:Cx),X.prog=P→X.w=w→X.K=K→X.calm=true→∀ (i:Nat) (pins:List (Addr × Obj)) (s:Shared) (σ:St) (H:Hp) (E:Value→Shared→Prop),Inv X pins σ H s→(∀ b∈fp,FpOk X pins H b)→tn i s.heap→J.go i H →
  wpAny (model P w) X.A (pyNext (.ref it)) (fun r s1=>∃ u,r=some u ∧
   wpAny (model P w) X.A (letOwnedTupleGo tg (.ref it) u) (fun _ s2=>∃ x H',Inv X pins σ H' s2∧RelV x u∧J.yld i H x H'∧tn (i+1) s2.heap∧∀ b∈fp,H' b=none) E s1) E s
 done:∀ (X:Cx),X.prog=P→X.w=w→X.K=K→X.calm=true→∀ (i:Nat) (pins:List (Addr × Obj)) (s:Shared) (σ:St) (H:Hp) (E:Value→Shared→Prop),Inv X pins σ H s→(∀ b∈fp,FpOk X pins H b)→tn i s.heap→J.stop i H →
  wpAny (model P w) X.A (pyNext (.ref it)) (fun r s1=>r=none∧Inv X pins σ H s1) E s
 self:∀ (A:Around) (i:Nat) (s:Shared) (Q:Value→Shared→Prop) (E:Value→Shared→Prop),tn i s.heap→Q (.ref it) s→wpAny (model P w) A (pyIter (.ref it)) Q E s
noncomputable abbrev TI:=St→Hp→(It→Hp→Prop)→Prop
inductive PIE (X:Cx) (pins:List (Addr × Obj)) (σ:St) (tg:Expr) (R:It→Hp→Prop) (itv:Value) (s2:Shared):Prop
 | mk (it:Addr) (fp:List Addr) (tn:Nat→Heap→Prop) (J:It) (H':Hp) (e:itv=.ref it) (I:Inv X pins σ H' s2) (T:Turn X.prog X.w X.K tg J fp it tn) (t0:tn 0 s2.heap) (f:∀ b∈fp,FpOk X pins H' b) (r:R J H')
def PI (X:Cx) (tg iter:Expr) (wi:TI):Prop :=
 ∀ (pins:List (Addr × Obj)) (s:Shared) (σ:St) (H:Hp) (R:It→Hp→Prop),Inv X pins σ H s→wi σ H R →
  wpAny (model X.prog X.w) X.A (eval iter X.env) (fun v s1=>wpAny (model X.prog X.w) X.A (pyIter v) (PIE X pins σ tg R) X.xe s1) X.xe s
theorem go_of {M:Model}{A:Around}{E:Value→Shared→Prop}{s:Shared}{tg:Expr}{it:Addr}{u:Value}{o:Obj}{n:String}{vs:Array Value}{Q:Unit→Shared→Prop} (ho:s.heap.get? it=some o) (hc:o.cls=.type n) (hd:o.data=.fields vs)
    (hn:["enumerate","zip","dict_itemiterator","dict_reverseitemiterator","odict_iterator","itertools.zip_longest","itertools.pairwise"].contains n=false) (hQ:Q () s):wpAny M A (letOwnedTupleGo tg (.ref it) u) Q E s:=by
  unfold letOwnedTupleGo
  cases tg <;> first
    | exact wpAny_pure hQ
    | (cases u <;> first
        | exact wpAny_pure hQ
        | (refine wpAny_bind (wpAny_load ho ?_)
           rw [hc,hd]
           show wpAny M A (if (["enumerate","zip","dict_itemiterator","dict_reverseitemiterator","odict_iterator","itertools.zip_longest","itertools.pairwise"].contains n&&vs[0]? == some (rawInt _))=true then _ else _) Q E s
           rw [if_neg (by intro h; rw [hn,Bool.false_and] at h; cases h)]
           exact wpAny_pure hQ))
noncomputable def Itl (K:W.Frag) (a:Addr):It :=
 ⟨fun i H=>∃ xs x,SqL K H a xs∧xs[i]?=some x,fun i H x H'=>H'=H∧∀ xs,SqL K H a xs→xs[i]?=some x,fun i H=>∃ xs,SqL K H a xs∧xs.length≤i⟩
noncomputable def Itt (K:W.Frag) (a:Addr):It :=
 ⟨fun i H=>∃ xs x,SqT K H a xs∧xs[i]?=some x,fun i H x H'=>H'=H∧∀ xs,SqT K H a xs→xs[i]?=some x,fun i H=>∃ xs,SqT K H a xs∧xs.length≤i⟩
noncomputable def Itr (lo:Int) (n:Nat):It:=⟨fun i _=>i<n,fun i H x H'=>H'=H∧x=.int (lo+i),fun i _=>n≤i⟩
theorem turn_list {P:Program}{w:World}{K:W.Frag}{tg:Expr} (a it:Addr):Turn P w K tg (Itl K a) [it] it (fun i h=>h.IsListIter it a i) where
 mem:=by simp
 obj:=fun i h st b hb=>by
  have e:b=it:=by simpa using hb
  subst e
  obtain ⟨o,e,c,d⟩:=st
  exact ⟨o,e,fun v z=>by rw [d] at z; cases z⟩
 keep:=fun i h h' st k=>st.at fun o e=>k it (by simp) o e
 item:=by
  intro X hP hw hK hc i pins s σ H E I hf st hg
  subst hP hw hK
  obtain ⟨xs,x,hq,hx⟩:=hg
  obtain ⟨its,rv,p,hz⟩:=I.list hq
  obtain ⟨u,hu,ru⟩:=rv.get hx
  obtain ⟨f0,f1,f2,f3,f4,f5⟩:=hf it (by simp)
  refine wpAny_pyNext_list_item st p.isList (x:=u) (by simpa using hu) fun h' st' sb=>?_
  have I1:Inv X pins σ H { s with heap:=h' }:=I.turned (t':=s.toks) (fun b o hb e=>(sb.2 b hb).trans e) f0 f1 f3 f4 f5
  obtain ⟨o,e,c,d⟩:=id st'
  exact ⟨u,rfl,go_of (s:={ s with heap:=h' }) e c d (by decide) ⟨x,H,I1,ru,⟨rfl,fun ys hy=>by rw [I.list_inj hy hq]; exact hx⟩,st',fun b hb=>(hf b hb).1⟩⟩
 done:=by
  intro X hP hw hK hc i pins s σ H E I hf st hg
  subst hP hw hK
  obtain ⟨xs,hq,hx⟩:=hg
  obtain ⟨its,rv,p,hz⟩:=I.list hq
  obtain ⟨f0,f1,f2,f3,f4,f5⟩:=hf it (by simp)
  have hl:=rv.length
  exact wpAny_pyNext_list_end (I.ok.hd hc) st p.isList (by simp; omega) fun h' eb=>⟨rfl,I.turned (t':=s.toks) (fun b o hb e=>eb b o hb e) f0 f1 f3 f4 f5⟩
 self:=fun _ _ _ _ _ st h=>wpAny_pyIter_listiter st h
theorem turn_tuple {P:Program}{w:World}{K:W.Frag}{tg:Expr} (a it:Addr):Turn P w K tg (Itt K a) [it] it (fun i h=>h.IsTupleIter it a i) where
 mem:=by simp
 obj:=fun i h st b hb=>by
  have e:b=it:=by simpa using hb
  subst e
  obtain ⟨o,e,c,d⟩:=st
  exact ⟨o,e,fun v z=>by rw [d] at z; cases z⟩
 keep:=fun i h h' st k=>st.at fun o e=>k it (by simp) o e
 item:=by
  intro X hP hw hK hc i pins s σ H E I hf st hg
  subst hP hw hK
  obtain ⟨xs,x,hq,hx⟩:=hg
  obtain ⟨its,rv,p,hz⟩:=I.tuple hq
  obtain ⟨u,hu,ru⟩:=rv.get hx
  obtain ⟨f0,f1,f2,f3,f4,f5⟩:=hf it (by simp)
  refine wpAny_pyNext_tuple_item st (show s.heap.IsTuple a its.toArray from p) (x:=u) (by simpa using hu) fun h' st' sb=>?_
  have I1:Inv X pins σ H { s with heap:=h' }:=I.turned (t':=s.toks) (fun b o hb e=>(sb.2 b hb).trans e) f0 f1 f3 f4 f5
  obtain ⟨o,e,c,d⟩:=id st'
  exact ⟨u,rfl,go_of (s:={ s with heap:=h' }) e c d (by decide) ⟨x,H,I1,ru,⟨rfl,fun ys hy=>by rw [I.tuple_inj hy hq]; exact hx⟩,st',fun b hb=>(hf b hb).1⟩⟩
 done:=by
  intro X hP hw hK hc i pins s σ H E I hf st hg
  subst hP hw hK
  obtain ⟨xs,hq,hx⟩:=hg
  obtain ⟨its,rv,p,hz⟩:=I.tuple hq
  obtain ⟨f0,f1,f2,f3,f4,f5⟩:=hf it (by simp)
  have hl:=rv.length
  exact wpAny_pyNext_tuple_end (I.ok.hd hc) st (show s.heap.IsTuple a its.toArray from p) (by simp; omega) fun h' eb=>⟨rfl,I.turned (t':=s.toks) (fun b o hb e=>eb b o hb e) f0 f1 f3 f4 f5⟩
 self:=fun _ _ _ _ _ st h=>wpAny_pyIter_tupleiter st h
theorem turn_range {P:Program}{w:World}{K:PySem.W.Frag}{tg:Expr} (it:Addr) (lo:Int) (n:Nat):Turn P w K tg (Itr lo n) [it] it (fun i h=>IsRangeIter h it (lo+(i:Nat)*1) ((n:Int) - (i:Nat)) 1) where
 mem:=by simp
 obj:=fun i h st b hb=>by
  have e:b=it:=by simpa using hb
  subst e
  exact ⟨_,st,fun v z=>by
   have z':Data.fields _=Data.cell v:=z
   cases z'⟩
 keep:=fun i h h' st k=>k it (by simp) _ st
 item:=by
  intro X hP hw hK hc i pins s σ H E I hf st hg
  subst hP hw hK
  obtain ⟨f0,f1,f2,f3,f4,f5⟩:=hf it (by simp)
  have W:=Walks.range (prog:=X.prog) (w:=X.w) (I.ok.hd hc) it lo 1 n
  refine W.item i s _ _ hg st fun v h' tk hv st' kk=>?_
  obtain ⟨t,rfl⟩:=hv
  have I1:Inv X pins σ H { s with heap:=h',toks:=tk }:=I.turned (fun b o hb e=>kk b o (by simpa using hb) e) f0 f1 f3 f4 f5
  refine ⟨_,rfl,go_of (s:={ s with heap:=h',toks:=tk }) (n := "range_iterator") st' rfl rfl (by decide) ⟨.int (lo+i),H,I1,⟨t,?_⟩,⟨rfl,rfl⟩,st',fun b hb=>(hf b hb).1⟩⟩
  rw [Int.mul_one]
 done:=by
  intro X hP hw hK hc i pins s σ H E I hf st hg
  subst hP hw hK
  obtain ⟨f0,f1,f2,f3,f4,f5⟩:=hf it (by simp)
  exact wpAny_pyNext_range_end (I.ok.hd hc) st (by have:n≤i:=hg; omega) fun h' eb=>⟨rfl,I.turned (t':=s.toks) (fun b o hb e=>eb b o hb e) f0 f1 f3 f4 f5⟩
 self:=fun _ _ _ _ _ st h=>wpAny_pyIter_rangeiter st h
section
variable {X:Cx}{tg:Expr}
theorem range_it {pins:List (Addr × Obj)}{σ:St}{H:Hp}{s:Shared}{R:It→Hp→Prop}{E:Value→Shared→Prop}{lo hi:Int}{t u v:Tok}{tk:Nat} (I:Inv X pins σ H s) (h1:-(2 ^ 62)≤lo) (h2:lo<2 ^ 62) (h3:-(2 ^ 62)≤hi) (h4:hi<2 ^ 62)
  (q:R (Itr lo (hi - lo).toNat) H):wpAny (model X.prog X.w) X.A (pyIter (.ref s.heap.objs.size)) (PIE X pins σ tg R) E { s with heap:=s.heap.push { cls:=.type "range",data:=.fields #[.int lo t,.int hi u,.int 1 v] },toks:=tk }:=by
 refine wpAny_pyIter_range (IsRange.new ..) (small_one h1 h2 h3 h4) ?_
 have I1:Inv X pins σ H { s with heap:=s.heap.push { cls:=.type "range",data:=.fields #[.int lo t,.int hi u,.int 1 v] },toks:=tk }:=I.kept fun b o e=>Heap.get?_push_of_some _ e
 refine ⟨(s.heap.push { cls:=.type "range",data:=.fields #[.int lo t,.int hi u,.int 1 v] }).objs.size,[(s.heap.push { cls:=.type "range",data:=.fields #[.int lo t,.int hi u,.int 1 v] }).objs.size],_,_,H,rfl,
  I1.kept (t':=tk) fun b o e=>Heap.get?_push_of_some _ e,turn_range _ lo (hi - lo).toNat,?_,fun b hb=>?_,q⟩
 ·have e1:lo+((0:Nat):Int)*1=lo:=by simp
  have e2:(((hi - lo).toNat:Nat):Int) - ((0:Nat):Int)=Builtin.Range.rangeSize lo hi 1:=by rw [rangeSize_one]; split <;> omega
  show IsRangeIter _ _ (lo+((0:Nat):Int)*1) ((((hi - lo).toNat:Nat):Int) - ((0:Nat):Int)) 1
  rw [e1,e2]
  exact Heap.get?_push_size _ rfl
 ·have e:b=(s.heap.push { cls:=.type "range",data:=.fields #[.int lo t,.int hi u,.int 1 v] }).objs.size:=by simpa using hb
  subst e
  exact I1.fpOk (Nat.le_refl _) (I1.hok.fresh (Nat.le_refl _))
noncomputable def iRng1 (ta:TA):TI:=fun σ H R=>ta σ H fun vs H1=>∃ j:Int,vs=[.int j]∧-(2 ^ 62)≤j∧j<2 ^ 62∧R (Itr 0 j.toNat) H1
noncomputable def iRng2 (ta:TA):TI:=fun σ H R=>ta σ H fun vs H1=>∃ i j:Int,vs=[.int i,.int j]∧(-(2 ^ 62)≤i∧i<2 ^ 62∧-(2 ^ 62)≤j∧j<2 ^ 62)∧R (Itr i (j - i).toNat) H1
theorem pi_range1 {a:Expr}{ta:TA}{p pos:Pos} (hg:Gl X "range") (hm:X.mg "range"=none) (ha:PA X [a] ta) (hs:starEach [a] X.env=[(false,eval a X.env)]:=by rfl):PI X tg (.Call (.Name "range" p) [a] [] pos) (iRng1 ta):=by
 intro pins s σ H R I h
 refine Call_ (ld_blt I hg hm boot_range (PyProof.Rows.callWith_type1 (thn (ha pos pins s σ H _ I h) fun us s1 ⟨vs,H1,I1,r1,q1⟩=>?_) hs rfl))
 obtain ⟨j,e,q1,q2,q⟩:=q1
 subst e
 cases r1 with
 | cons r rr =>
  cases rr
  obtain ⟨t,rfl⟩:=r
  exact call_range_1 (range_it I1 (by omega) (by omega) q1 q2 (by simpa using q))
theorem pi_range2 {a b:Expr}{ta:TA}{p pos:Pos} (hg:Gl X "range") (hm:X.mg "range"=none) (ha:PA X [a,b] ta) (hs:starEach [a,b] X.env=[(false,eval a X.env),(false,eval b X.env)]:=by rfl) (hs2:starEach [b] X.env=[(false,eval b X.env)]:=by rfl) :
  PI X tg (.Call (.Name "range" p) [a,b] [] pos) (iRng2 ta):=by
 intro pins s σ H R I h
 refine Call_ (ld_blt I hg hm boot_range (PyProof.Rows.callWith_type1 (thn (ha pos pins s σ H _ I h) fun us s1 ⟨vs,H1,I1,r1,q1⟩=>?_) (by rw [hs,hs2]) (by rw [hs2]; rfl)))
 obtain ⟨i,j,e,⟨q1,q2,q3,q4⟩,q⟩:=q1
 subst e
 cases r1 with
 | cons r rr =>
  cases rr with
  | cons r' rr =>
   cases rr
   obtain ⟨t,rfl⟩:=r
   obtain ⟨t',rfl⟩:=r'
   exact call_range_2 (range_it I1 q1 q2 q3 q4 q)
noncomputable def tFor (wi:TI) (g:TG) (tb:TS):TS:=fun D σ H=>wi σ H fun J H1=>∃ W:Nat→Nat→St→Hp→Prop,(∃ m,W 0 m σ H1)∧∀ i m σ H,W i m σ H →
 (J.stop i H∧D.nx σ H)∨(J.go i H∧∃ N:St→Hp→Prop,(∀ σ' H',N σ' H'→∃ m',m'<m∧W (i+1) m' σ' H')∧∀ x H',J.yld i H x H'→g x σ H' fun σ2 H2=>tb { D with nx:=N,ct:=N,bk:=D.nx } σ2 H2)
noncomputable def pinsAt (fp:List Addr) (h:Heap):List (Addr × Obj):=fp.filterMap fun b=>(h.get? b).map fun o=>(b,o)
theorem mem_pinsAt {fp:List Addr}{h:Heap}{b:Addr}{o:Obj} (hb:b∈fp) (e:h.get? b=some o):(b,o)∈pinsAt fp h:=List.mem_filterMap.mpr ⟨b,hb,by rw [e]; rfl⟩
theorem of_pinsAt {fp:List Addr}{h:Heap}{p:Addr × Obj} (hp:p∈pinsAt fp h):p.1∈fp∧h.get? p.1=some p.2:=by
 obtain ⟨b,hb,e⟩:=List.mem_filterMap.mp hp
 cases q:h.get? b with
 | none=>rw [q] at e; cases e
 | some o =>
  rw [q] at e
  have e':(b,o)=p:=Option.some.inj e
  subst e'
  exact ⟨hb,q⟩
theorem Inv.pinned {pins:List (Addr × Obj)}{σ:St}{H:Hp}{s:Shared}{fp:List Addr} (I:Inv X pins σ H s) (hf:∀ b∈fp,FpOk X pins H b) (ho:∀ b∈fp,∃ o,s.heap.get? b=some o∧∀ v,o.data≠.cell v):Inv X (pins++pinsAt fp s.heap) σ H s :=
 I.pins_of fun p hp=>(List.mem_append.mp hp).elim (fun z=>I.pin p (List.mem_append_right _ z)) fun z=>by
  obtain ⟨hb,e⟩:=of_pinsAt z
  obtain ⟨f0,f1,f2,_⟩:=hf p.1 hb
  obtain ⟨o,e',d⟩:=ho p.1 hb
  rw [e] at e'; cases e'
  exact ⟨e,f0,f1,f2,d⟩
theorem Inv.unpinned {pins pl:List (Addr × Obj)}{σ:St}{H:Hp}{s:Shared} (I:Inv X (pins++pl) σ H s):Inv X pins σ H s:=I.pins_of fun p hp=>I.pin p (List.mem_append_right _ (List.mem_append_left _ hp))
theorem ps_for {iter:Expr}{body:List Stmt}{wi:TI}{g:TG}{tb:TS}{pos:Pos} (hp:PassesOwn (model X.prog X.w) X.A X.env X.xe) (hc:X.calm=true) (hi:PI X tg iter wi) (hg:PG X tg g) (hb:PSs X body tb)
  (hs:∀ x,foldedSetIterable iter X.env x=pure x:=by intro _; rfl):PS X (.For tg iter body [] pos) (tFor wi g tb):=by
 intro pins s σ H D I h
 refine wpAny_For (thn (hi pins s σ H _ I h) fun v s1 h1=>thn h1 fun itv s2 h2=>?_) hs
 obtain ⟨it,fp,tn,J,H2,e,I2,T,st2,f2,W,⟨m0,w0⟩,turn⟩:=h2
 subst e
 have stat:∀ {H':Hp},(∀ b∈fp,H' b=none)→∀ b∈fp,FpOk X pins H' b:=fun hn b hb=>⟨hn b hb,(f2 b hb).2⟩
 refine codeAny_forLoop_any (fun n s'=>∃ i σ' H',Inv X pins σ' H' s'∧tn i s'.heap∧(∀ b∈fp,H' b=none)∧W i n σ' H') ?_ m0 ⟨0,σ,H2,I2,st2,fun b hb=>(f2 b hb).1,w0⟩
 rintro n s3 ⟨i,σ3,H3,I3,st3,fr3,w3⟩
 rcases turn i n σ3 H3 w3 with ⟨stop,qn⟩ | ⟨go,N,hN,step⟩
 ·refine wpAny_passesOwn hp (thn (T.done X rfl rfl rfl hc i pins s3 σ3 H3 X.xe I3 (stat fr3) st3 stop) fun r s4 ⟨hr,I4⟩=>?_)
  subst hr
  exact wpAny_execs_nil ⟨σ3,H3,I4,qn⟩
 ·refine wpAny_passesOwn hp (thn (T.item X rfl rfl rfl hc i pins s3 σ3 H3 X.xe I3 (stat fr3) st3 go) fun r s4 ⟨u,hr,h4⟩=>?_)
  subst hr
  refine wpAny_passesOwn hp (thn h4 fun _ s5 ⟨x,H5,I5,r5,y5,st5,fr5⟩=>?_)
  have I5':=I5.pinned (stat fr5) (T.obj _ _ st5)
  refine wpAny_passesOwn hp (thn (hg _ s5 σ3 H5 x u _ I5' r5 (step x H5 y5)) fun _ s6 ⟨σ6,H6,I6,q6⟩=>?_)
  refine wpAny_passesOwn hp (thn (hb _ s6 σ6 H6 _ I6 q6) fun f s7 q7=>?_)
  have again:∀ {σ7:St}{H7:Hp},Inv X (pins++pinsAt fp s5.heap) σ7 H7 s7→N σ7 H7→∃ m,m<n∧∃ i σ' H',Inv X pins σ' H' s7∧tn i s7.heap∧(∀ b∈fp,H' b=none)∧W i m σ' H':=fun {σ7 H7} I7 n7=>by
   obtain ⟨m',hm,w7⟩:=hN σ7 H7 n7
   refine ⟨m',hm,i+1,σ7,H7,I7.unpinned,T.keep _ _ _ st5 fun b hb o e=>(I7.pin (b,o) (List.mem_append_right _ (List.mem_append_right _ (mem_pinsAt hb e)))).1,fun b hb=>?_,w7⟩
   obtain ⟨o,e,d⟩:=T.obj _ _ st5 b hb
   exact (I7.pin (b,o) (List.mem_append_right _ (List.mem_append_right _ (mem_pinsAt hb e)))).2.1
  cases f with
  | next=>obtain ⟨σ7,H7,I7,n7⟩:=q7; exact again I7 n7
  | cont=>obtain ⟨σ7,H7,I7,n7⟩:=q7; exact again I7 n7
  | brk=>obtain ⟨σ7,H7,I7,q7⟩:=q7; exact ⟨σ7,H7,I7.unpinned,q7⟩
  | ret v=>obtain ⟨x7,σ7,H7,I7,r7,q7⟩:=q7; exact ⟨x7,σ7,H7,I7.unpinned,r7,q7⟩
end
noncomputable abbrev R2:=V→V→Hp→VK→Prop
def OpR (X:Cx) (f:Value→Value→Sem Value) (r:R2):Prop :=
 ∀ (pins:List (Addr × Obj)) (s:Shared) (σ:St) (H:Hp) (x y:V) (v u:Value) (Q:VK),Inv X pins σ H s→RelV x v→RelV y u→r x y H Q →
  wpAny (model X.prog X.w) X.A (f v u) (EP X pins σ Q) X.xe s
def UnR (X:Cx) (f:Value→Sem Value) (r:V→Hp→VK→Prop):Prop :=
 ∀ (pins:List (Addr × Obj)) (s:Shared) (σ:St) (H:Hp) (x:V) (v:Value) (Q:VK),Inv X pins σ H s→RelV x v→r x H Q →
  wpAny (model X.prog X.w) X.A (f v) (EP X pins σ Q) X.xe s
def CallR (X:Cx) (f:Value) (r:List V→Hp→VK→Prop):Prop :=
 ∀ (pins:List (Addr × Obj)) (s:Shared) (σ:St) (H:Hp) (xs:List V) (us:List Value) (Q:VK),Inv X pins σ H s→Vals xs us→r xs H Q →
  wpAny (model X.prog X.w) X.A (call f us) (EP X pins σ Q) X.xe s
def TruR (X:Cx) (r:V→Hp→(Bool→Hp→Prop)→Prop):Prop :=
 ∀ (pins:List (Addr × Obj)) (s:Shared) (σ:St) (H:Hp) (x:V) (v:Value) (Q:Bool→Hp→Prop),Inv X pins σ H s→RelV x v→r x H Q →
  wpAny (model X.prog X.w) X.A (truthy v) (TP X pins σ Q) X.xe s
noncomputable def tOp (r:R2) (ta tb:TE):TE:=fun σ H Q=>ta σ H fun x H1=>tb σ H1 fun y H2=>r x y H2 Q
noncomputable def tUn (r:V→Hp→VK→Prop) (ta:TE):TE:=fun σ H Q=>ta σ H fun x H1=>r x H1 Q
noncomputable def rI (C:Int→Int→Prop) (g:Int→Int→V):R2:=fun x y H Q=>∃ i j,x=.int i∧y=.int j∧C i j∧Q (g i j) H
noncomputable def rI0 (g:Int→Int→V):R2:=fun x y H Q=>∃ i j,x=.int i∧y=.int j∧Q (g i j) H
noncomputable def rU (g:Int→V):V→Hp→VK→Prop:=fun x H Q=>∃ i,x=.int i∧Q (g i) H
section
variable {X:Cx}{a b c:Expr}{ta tb tc:TE}{pos:Pos}
theorem binT (ha:PE X a ta) (hb:PE X b tb) {pins:List (Addr × Obj)}{s:Shared}{σ:St}{H:Hp}{R:V→V→Hp→Prop} (I:Inv X pins σ H s)
  (h:ta σ H fun x H1=>tb σ H1 fun y H2=>R x y H2) {Q:Value→Shared→Prop}{f:Value→Value→Sem Value}
  (hf:∀ v u s2 x y H2,Inv X pins σ H2 s2→RelV x v→RelV y u→R x y H2→wpAny (model X.prog X.w) X.A (f v u) Q X.xe s2) :
  wpAny (model X.prog X.w) X.A (eval a X.env) (fun v s₁=>wpAny (model X.prog X.w) X.A (eval b X.env) (fun u s₂=>wpAny (model X.prog X.w) X.A (f v u) Q X.xe s₂) X.xe s₁) X.xe s:=by
 refine thn (ha pins s σ H _ I h) fun v s1 ⟨x,H1,I1,r1,q1⟩=>?_
 refine thn (hb pins s1 σ H1 _ I1 q1) fun u s2 ⟨y,H2,I2,r2,q2⟩=>?_
 exact hf v u s2 x y H2 I2 r1 r2 q2
theorem pe_op {op:Operator}{r:R2} (ho:OpR X (binaryOp op) r) (ha:PE X a ta) (hb:PE X b tb):PE X (.BinOp a op b pos) (tOp r ta tb):=by
 intro pins s σ H Q I h
 exact wpAny_BinOp (binT ha hb I h fun v u s2 x y H2 I2 rx ry q=>ho pins s2 σ H2 x y v u Q I2 rx ry q)
theorem pe_un {op:UnaryOp}{r:V→Hp→VK→Prop} (ho:UnR X (unaryOp op) r) (ha:PE X a ta):PE X (.UnaryOp op a pos) (tUn r ta):=by
 intro pins s σ H Q I h
 exact UnaryOp_ (thn (ha pins s σ H _ I h) fun v s1 ⟨x,H1,I1,r1,q1⟩=>ho pins s1 σ H1 x v Q I1 r1 q1)
theorem opI {f:Value→Value→Sem Value}{C:Int→Int→Prop}{g:Int→Int→Int}
  (rule:∀ (i j:Int) (t u:Tok) (s:Shared) (Q:Value→Shared→Prop) (E:Value→Shared→Prop),C i j→Q (.int (g i j) s.toks) { s with toks:=s.toks+1 }→wpAny (model X.prog X.w) X.A (f (.int i t) (.int j u)) Q E s) :
  OpR X f (rI C fun i j=>.int (g i j)):=by
 intro pins s σ H x y v u Q I rx ry h
 obtain ⟨i,j,rfl,rfl,hc,q⟩:=h
 obtain ⟨t,rfl⟩:=rx
 obtain ⟨t',rfl⟩:=ry
 exact rule i j t t' s _ _ hc ⟨.int (g i j),H,I.tok _,⟨_,rfl⟩,q⟩
theorem opI0 {f:Value→Value→Sem Value}{g:Int→Int→Int}
  (rule:∀ (i j:Int) (t u:Tok) (s:Shared) (Q:Value→Shared→Prop) (E:Value→Shared→Prop),Q (.int (g i j) s.toks) { s with toks:=s.toks+1 }→wpAny (model X.prog X.w) X.A (f (.int i t) (.int j u)) Q E s) :
  OpR X f (rI0 fun i j=>.int (g i j)):=by
 intro pins s σ H x y v u Q I rx ry h
 obtain ⟨i,j,rfl,rfl,q⟩:=h
 obtain ⟨t,rfl⟩:=rx
 obtain ⟨t',rfl⟩:=ry
 exact rule i j t t' s _ _ ⟨.int (g i j),H,I.tok _,⟨_,rfl⟩,q⟩
theorem opB0 {f:Value→Value→Sem Value}{g:Int→Int→Bool}
  (rule:∀ (i j:Int) (t u:Tok) (s:Shared) (Q:Value→Shared→Prop) (E:Value→Shared→Prop),Q (.bool (g i j)) s→wpAny (model X.prog X.w) X.A (f (.int i t) (.int j u)) Q E s) :
  OpR X f (rI0 fun i j=>.bl (g i j)):=by
 intro pins s σ H x y v u Q I rx ry h
 obtain ⟨i,j,rfl,rfl,q⟩:=h
 obtain ⟨t,rfl⟩:=rx
 obtain ⟨t',rfl⟩:=ry
 exact rule i j t t' s _ _ ⟨.bl (g i j),H,I,rfl,q⟩
def CDiv (i j:Int):Prop:=0<j∧j<1073741824
def CPow (i j:Int):Prop:=0≤j∧j≤1000000∧i.natAbs<2 ^ 64
def CMul (i j:Int):Prop:=(-(2 ^ 64)<i∧i<2 ^ 64)∨(-(2 ^ 64)<j∧j<2 ^ 64)
theorem CMul.ok {i j:Int} (h:CMul i j):IntMulOk i j:=by
 rcases h with ⟨h1,h2⟩ | ⟨h1,h2⟩
 ·exact .of_left (intBits_le_64 h1 h2)
 ·exact .of_right (intBits_le_64 h1 h2)
theorem two_pow_nn (k:Nat):(0:Int)≤2 ^ k:=by
 rw [two_pow_cast]
 exact Int.natCast_nonneg _
theorem op_add:OpR X (binaryOp .Add) (rI0 fun i j=>.int (i+j)):=opI0 fun _ _ _ _ _ _ _ q=>add_int q
theorem op_sub:OpR X (binaryOp .Sub) (rI0 fun i j=>.int (i - j)):=opI0 fun _ _ _ _ _ _ _ q=>sub_int q
theorem op_mul:OpR X (binaryOp .Mult) (rI CMul fun i j=>.int (i*j)):=opI fun _ _ _ _ _ _ _ hc q=>mul_int q hc.ok
theorem op_fdiv:OpR X (binaryOp .FloorDiv) (rI CDiv fun i j=>.int (i / j)):=opI fun i j _ _ _ _ _ hc q=>by
 have h1:(0:Int)<j:=hc.1
 have h2:j<1073741824:=hc.2
 exact floordiv_int (by omega) (by rw [Int.fdiv_eq_ediv_of_nonneg i (by omega)]; exact q) (.inl (PyProof.noPylong_small (by omega)))
theorem op_mod:OpR X (binaryOp .Mod) (rI (fun _ j=>0<j) fun i j=>.int (i % j)):=opI fun i j _ _ _ _ _ hc q=>by
 have h1:(0:Int)<j:=hc
 exact mod_int' (by omega) (by rw [Int.fmod_eq_emod_of_nonneg i (by omega)]; exact q)
theorem op_pow:OpR X (binaryOp .Pow) (rI CPow fun i j=>.int (i ^ j.toNat)):=opI fun _ _ _ _ _ _ _ hc q=>pow_int_small hc.1 hc.2.1 hc.2.2 q
theorem op_shl:OpR X (binaryOp .LShift) (rI CPow fun i j=>.int (i*2 ^ j.toNat)):=opI fun _ _ _ _ _ _ _ hc q=>lshift_int_small hc.1 hc.2.1 hc.2.2 q
theorem op_shr:OpR X (binaryOp .RShift) (rI (fun _ j=>0≤j) fun i j=>.int (i / 2 ^ j.toNat)):=opI fun i j _ _ _ _ _ hc q =>
 rshift_int hc (by rw [Int.fdiv_eq_ediv_of_nonneg i (two_pow_nn _)]; exact q)
theorem op_and:OpR X (binaryOp .BitAnd) (rI0 fun i j=>.int (Builtin.bitAnd i j)):=opI0 fun _ _ _ _ _ _ _ q=>and_int q
theorem op_or:OpR X (binaryOp .BitOr) (rI0 fun i j=>.int (Builtin.bitOr i j)):=opI0 fun _ _ _ _ _ _ _ q=>or_int q
theorem op_xor:OpR X (binaryOp .BitXor) (rI0 fun i j=>.int (Builtin.bitXor i j)):=opI0 fun _ _ _ _ _ _ _ q=>xor_int q
theorem unI {f:Value→Sem Value}{g:Int→Int}
  (rule:∀ (i:Int) (t:Tok) (s:Shared) (Q:Value→Shared→Prop) (E:Value→Shared→Prop),Q (.int (g i) s.toks) { s with toks:=s.toks+1 }→wpAny (model X.prog X.w) X.A (f (.int i t)) Q E s) :
  UnR X f (rU fun i=>.int (g i)):=by
 intro pins s σ H x v Q I rx h
 obtain ⟨i,rfl,q⟩:=h
 obtain ⟨t,rfl⟩:=rx
 exact rule i t s _ _ ⟨.int (g i),H,I.tok _,⟨_,rfl⟩,q⟩
theorem un_neg:UnR X (unaryOp .USub) (rU fun i=>.int (-i)):=unI fun _ _ _ _ _ q=>neg_int q
end
noncomputable def scal:V→V→Bool
 | .non,.non=>true | .non,.int _=>true | .int _,.non=>true | .non,.bl _=>true | .bl _,.non=>true | .non,.str _=>true | .str _,.non=>true
 | .int _,.int _=>true | .bl _,.bl _=>true | .str _,.str _=>true | .byt _,.byt _=>true
 | .int _,.str _=>true | .str _,.int _=>true | .bl _,.str _=>true | .str _,.bl _=>true
 | _,_=>false
noncomputable def rEq:R2:=fun x y H Q=>scal x y=true∧Q (.bl (decide (x=y))) H
noncomputable def rNe:R2:=fun x y H Q=>scal x y=true∧Q (.bl (!decide (x=y))) H
theorem dec_int {i j:Int}:decide (V.int i=V.int j)=(i == j):=by
 rw [Bool.eq_iff_iff]
 simp
theorem dec_bl {i j:Bool}:decide (V.bl i=V.bl j)=(i == j):=by
 rw [Bool.eq_iff_iff]
 simp
theorem dec_str {i j:Str}:decide (V.str i=V.str j)=(i == j):=by
 rw [Bool.eq_iff_iff]
 simp
theorem dec_byt {i j:Array UInt8}:decide (V.byt i=V.byt j)=(i.toList == j.toList):=by
 rw [Bool.eq_iff_iff]
 cases i
 cases j
 simp
section
variable {X:Cx}{a b c:Expr}{ta tb tc:TE}{pos:Pos}
theorem fin_bl {pins:List (Addr × Obj)}{σ:St}{H:Hp}{s:Shared}{Q:VK}{k k':Bool} (I:Inv X pins σ H s) (q:Q (.bl k) H) (e:k=k'):EP X pins σ Q (.bool k') s:=by
 subst e
 exact ⟨.bl k,H,I,rfl,q⟩
theorem op_eq:OpR X (compareOp .Eq) rEq:=by
 intro pins s σ H x y v u Q I rx ry h
 obtain ⟨hs,q⟩:=h
 cases x with
 | non =>
  cases rx
  cases y with
  | non=>cases ry; exact PySem.EqNone.eq_none_none (fin_bl I q (by simp))
  | bl j=>cases ry; exact PySem.EqNone.eq_none_bool (fin_bl I q (by simp))
  | int j=>obtain ⟨t',rfl⟩:=ry; exact PySem.EqNone.eq_none_int (fin_bl I q (by simp))
  | str j=>obtain ⟨t',rfl⟩:=ry; exact PySem.EqNone.eq_none_str (fin_bl I q (by simp))
  | _=>exact absurd (show false=true from hs) Bool.false_ne_true
 | bl i =>
  cases rx
  cases y with
  | non=>cases ry; exact PySem.EqNone.eq_bool_none (fin_bl I q (by simp))
  | bl j=>cases ry; exact eq_bool (fin_bl I q dec_bl)
  | str j=>obtain ⟨t',rfl⟩:=ry; exact PySem.EqMixed.eq_bool_str (fin_bl I q (by simp))
  | _=>exact absurd (show false=true from hs) Bool.false_ne_true
 | int i =>
  obtain ⟨t,rfl⟩:=rx
  cases y with
  | non=>cases ry; exact PySem.EqNone.eq_int_none (fin_bl I q (by simp))
  | int j=>obtain ⟨t',rfl⟩:=ry; exact eq_int (fin_bl I q dec_int)
  | str j=>obtain ⟨t',rfl⟩:=ry; exact PySem.EqMixed.eq_int_str (fin_bl I q (by simp))
  | _=>exact absurd (show false=true from hs) Bool.false_ne_true
 | str i =>
  obtain ⟨t,rfl⟩:=rx
  cases y with
  | non=>cases ry; exact PySem.EqNone.eq_str_none (fin_bl I q (by simp))
  | bl j=>cases ry; exact PySem.EqMixed.eq_str_bool (fin_bl I q (by simp))
  | int j=>obtain ⟨t',rfl⟩:=ry; exact PySem.EqMixed.eq_str_int (fin_bl I q (by simp))
  | str j=>obtain ⟨t',rfl⟩:=ry; exact eq_str (fin_bl I q dec_str)
  | _=>exact absurd (show false=true from hs) Bool.false_ne_true
 | byt i =>
  obtain ⟨t,rfl⟩:=rx
  cases y with
  | byt j=>obtain ⟨t',rfl⟩:=ry; exact W.eq_bytes (fin_bl I q dec_byt)
  | _=>exact absurd (show false=true from hs) Bool.false_ne_true
 | _=>cases y <;> exact absurd (show false=true from hs) Bool.false_ne_true
theorem op_ne:OpR X (compareOp .NotEq) rNe:=by
 intro pins s σ H x y v u Q I rx ry h
 obtain ⟨hs,q⟩:=h
 cases x with
 | non =>
  cases rx
  cases y with
  | non=>cases ry; exact PySem.EqNone.ne_none_none (fin_bl I q (by simp))
  | bl j=>cases ry; exact PySem.EqNone.ne_none_bool (fin_bl I q (by simp))
  | int j=>obtain ⟨t',rfl⟩:=ry; exact PySem.EqNone.ne_none_int (fin_bl I q (by simp))
  | str j=>obtain ⟨t',rfl⟩:=ry; exact PySem.EqNone.ne_none_str (fin_bl I q (by simp))
  | _=>exact absurd (show false=true from hs) Bool.false_ne_true
 | bl i =>
  cases rx
  cases y with
  | non=>cases ry; exact PySem.EqNone.ne_bool_none (fin_bl I q (by simp))
  | bl j=>cases ry; exact ne_bool (fin_bl I q (congrArg not dec_bl))
  | str j=>obtain ⟨t',rfl⟩:=ry; exact PySem.EqMixed.ne_bool_str (fin_bl I q (by simp))
  | _=>exact absurd (show false=true from hs) Bool.false_ne_true
 | int i =>
  obtain ⟨t,rfl⟩:=rx
  cases y with
  | non=>cases ry; exact PySem.EqNone.ne_int_none (fin_bl I q (by simp))
  | int j=>obtain ⟨t',rfl⟩:=ry; exact ne_int (fin_bl I q (congrArg not dec_int))
  | str j=>obtain ⟨t',rfl⟩:=ry; exact PySem.EqMixed.ne_int_str (fin_bl I q (by simp))
  | _=>exact absurd (show false=true from hs) Bool.false_ne_true
 | str i =>
  obtain ⟨t,rfl⟩:=rx
  cases y with
  | non=>cases ry; exact PySem.EqNone.ne_str_none (fin_bl I q (by simp))
  | bl j=>cases ry; exact PySem.EqMixed.ne_str_bool (fin_bl I q (by simp))
  | int j=>obtain ⟨t',rfl⟩:=ry; exact PySem.EqMixed.ne_str_int (fin_bl I q (by simp))
  | str j=>obtain ⟨t',rfl⟩:=ry; exact ne_str (fin_bl I q (congrArg not dec_str))
  | _=>exact absurd (show false=true from hs) Bool.false_ne_true
 | byt i =>
  obtain ⟨t,rfl⟩:=rx
  cases y with
  | byt j=>obtain ⟨t',rfl⟩:=ry; exact W.ne_bytes (fin_bl I q (congrArg not dec_byt))
  | _=>exact absurd (show false=true from hs) Bool.false_ne_true
 | _=>cases y <;> exact absurd (show false=true from hs) Bool.false_ne_true
theorem op_lt:OpR X (compareOp .Lt) (rI0 fun i j=>.bl (decide (i<j))):=opB0 fun _ _ _ _ _ _ _ q=>lt_int q
theorem op_le:OpR X (compareOp .LtE) (rI0 fun i j=>.bl (decide (i≤j))):=opB0 fun _ _ _ _ _ _ _ q=>le_int q
theorem op_gt:OpR X (compareOp .Gt) (rI0 fun i j=>.bl (decide (j<i))):=opB0 fun _ _ _ _ _ _ _ q=>gt_int q
theorem op_ge:OpR X (compareOp .GtE) (rI0 fun i j=>.bl (decide (j≤i))):=opB0 fun _ _ _ _ _ _ _ q=>ge_int q
theorem op_isN:OpR X (compareOp .Is) (fun x y H Q=>y=.non∧Q (.bl (decide (x=.non))) H):=by
 intro pins s σ H x y v u Q I rx ry h
 obtain ⟨rfl,q⟩:=h
 cases ry
 refine is_none_gen (fin_bl I q ?_)
 cases x <;> first
  | (cases rx; rfl)
  | (obtain ⟨t,rfl⟩:=rx; rfl)
theorem op_notN:OpR X (compareOp .IsNot) (fun x y H Q=>y=.non∧Q (.bl (!decide (x=.non))) H):=by
 intro pins s σ H x y v u Q I rx ry h
 obtain ⟨rfl,q⟩:=h
 cases ry
 refine isnot_none_gen (fin_bl I q ?_)
 cases x <;> first
  | (cases rx; rfl)
  | (obtain ⟨t,rfl⟩:=rx; rfl)
theorem pe_cmpR {op:CmpOp}{r:R2} (ho:OpR X (compareOp op) r) (ha:PE X a ta) (hb:PE X b tb) (hm:behindInMarks op b=false):PE X (.Compare a [op] [b] pos) (tOp r ta tb):=by
 intro pins s σ H Q I h
 exact wpAny_Compare1 (binT ha hb I h fun v u s2 x y H2 I2 rx ry q=>ho pins s2 σ H2 x y v u Q I2 rx ry q) hm
noncomputable def tTest (t:TE):TT:=fun σ H Q=>t σ H fun x H'=>∃ k,x=.bl k∧Q k H'
theorem pt_cmpR {op:CmpOp}{r:R2} (ho:OpR X (compareOp op) r) (ha:PE X a ta) (hb:PE X b tb) (hm:behindInMarks op b=false):PT X (.Compare a [op] [b] pos) (tTest (tOp r ta tb)):=by
 intro pins s σ H Q I h
 refine wpAny_isTrue_Compare1 (thn (ha pins s σ H _ I h) fun v s1 ⟨x,H1,I1,r1,q1⟩=>thn (hb pins s1 σ H1 _ I1 q1) fun u s2 ⟨y,H2,I2,r2,q2⟩ =>
  thn (ho pins s2 σ H2 x y v u _ I2 r1 r2 q2) fun c s3 ⟨z,H3,I3,r3,k,e,q3⟩=>?_) hm
 subst e
 cases r3
 exact wpAny_truthy_bool ⟨H3,I3,q3⟩
noncomputable def tChain (r r':R2) (ta tb tc:TE):TE:=fun σ H Q=>ta σ H fun x H1=>tb σ H1 fun y H2=>r x y H2 fun z H3=>∃ k,z=.bl k ∧
 (if k=true then tc σ H3 fun w' H4=>r' y w' H4 Q else Q (.bl false) H3)
theorem pe_chain {op op':CmpOp}{r r':R2} (ho:OpR X (compareOp op) r) (ho':OpR X (compareOp op') r') (ha:PE X a ta) (hb:PE X b tb) (hc:PE X c tc)
  (hm:lastMarks [op,op'] [b,c]=false:=by with_unfolding_all rfl):PE X (.Compare a [op,op'] [b,c] pos) (tChain r r' ta tb tc):=by
 intro pins s σ H Q I h
 refine Compare_chain (thn (ha pins s σ H _ I h) fun v s1 ⟨x,H1,I1,r1,q1⟩=>chain_link (thn (hb pins s1 σ H1 _ I1 q1) fun u s2 ⟨y,H2,I2,r2,q2⟩ =>
  thn (ho pins s2 σ H2 x y v u _ I2 r1 r2 q2) fun d s3 ⟨z,H3,I3,r3,k,e,q3⟩=>?_)) hm
 subst e
 cases r3
 refine wpAny_truthy_bool ?_
 cases k with
 | false=>exact ite_ff ⟨.bl false,H3,I3,rfl,q3⟩
 | true=>exact ite_tt (chain_last (thn (hc pins s3 σ H3 _ I3 q3) fun w' s4 ⟨z',H4,I4,r4,q4⟩=>ho' pins s4 σ H4 y z' u w' Q I4 r2 r4 q4))
theorem pt_chain {op op':CmpOp}{r r':R2} (ho:OpR X (compareOp op) r) (ho':OpR X (compareOp op') r') (ha:PE X a ta) (hb:PE X b tb) (hc:PE X c tc)
  (hm:lastMarks [op,op'] [b,c]=false:=by with_unfolding_all rfl):PT X (.Compare a [op,op'] [b,c] pos) (tTest (tChain r r' ta tb tc)):=by
 intro pins s σ H Q I h
 refine isTrue_chain (thn (ha pins s σ H _ I h) fun v s1 ⟨x,H1,I1,r1,q1⟩=>test_link (thn (hb pins s1 σ H1 _ I1 q1) fun u s2 ⟨y,H2,I2,r2,q2⟩ =>
  thn (ho pins s2 σ H2 x y v u _ I2 r1 r2 q2) fun d s3 ⟨z,H3,I3,r3,k,e,q3⟩=>?_)) hm
 subst e
 cases r3
 refine wpAny_truthy_bool ?_
 cases k with
 | false =>
  obtain ⟨k',e',q'⟩:=q3
  cases e'
  exact ite_ff ⟨H3,I3,q'⟩
 | true =>
  refine ite_tt (test_last (thn (hc pins s3 σ H3 _ I3 q3) fun w' s4 ⟨z',H4,I4,r4,q4⟩=>thn (ho' pins s4 σ H4 y z' u w' _ I4 r2 r4 q4) fun d' s5 ⟨z2,H5,I5,r5,k2,e2,q5⟩=>?_))
  subst e2
  cases r5
  exact wpAny_truthy_bool ⟨H5,I5,q5⟩
def TruV (K:W.Frag) (x:V) (H:Hp) (k:Bool):Prop :=
 match x with
 | .non=>k=false
 | .bl b=>k=b
 | .int i=>k=(i != 0)
 | .str y=>y.length≤sizeLine∧k=((y.length:Int) != 0)
 | .byt y=>y.size≤sizeLine∧k=((y.size:Int) != 0)
 | .ref p=>(∃ xs,SqL K H p xs∧k=!xs.isEmpty)∨(∃ xs,SqT K H p xs∧k=!xs.isEmpty)∨∃ kvs,H p=some (.dK kvs)∧k=!kvs.isEmpty
 | _=>False
theorem isEmpty_kv {κ:Type}{kvs:List (κ × V)}{vs:List (κ × Value)} (r:KV kvs vs):(!vs.isEmpty)=!kvs.isEmpty:=by
 cases r <;> rfl
theorem isEmpty_of {xs:List V}{its:List Value} (r:Vals xs its):(!its.toArray.isEmpty)=!xs.isEmpty:=by
 cases r <;> simp
theorem line63:(sizeLine:Nat)<2 ^ 63:=by rw [sizeLine_eq]; decide
theorem tru_ok:TruR X (fun x H Q=>∃ k,TruV X.K x H k∧Q k H):=by
 intro pins s σ H x v Q I rx h
 obtain ⟨k,e,q⟩:=h
 have hl:=line63
 have hs:sizeLine=16777216:=sizeLine_eq
 cases x with
 | non =>
  cases rx
  have e':k=false:=e
  subst e'
  exact truthy_none ⟨H,I,q⟩
 | bl b =>
  cases rx
  have e':k=b:=e
  subst e'
  exact wpAny_truthy_bool ⟨H,I,q⟩
 | int i =>
  obtain ⟨t,rfl⟩:=rx
  have e':k=(i != 0):=e
  subst e'
  exact PySem.P.truthy_int ⟨H,I,q⟩
 | str y =>
  obtain ⟨t,rfl⟩:=rx
  obtain ⟨hy,e'⟩:y.length≤sizeLine∧k=((y.length:Int) != 0):=e
  subst e'
  exact PySem.P.truthy_str (by omega) ⟨H,I.tok _,q⟩
 | byt y =>
  obtain ⟨t,rfl⟩:=rx
  obtain ⟨hy,e'⟩:y.size≤sizeLine∧k=((y.size:Int) != 0):=e
  subst e'
  exact W.truthy_bytes (by omega) ⟨H,I.tok _,q⟩
 | ref p =>
  cases rx
  have e':(∃ xs,SqL X.K H p xs∧k=!xs.isEmpty)∨(∃ xs,SqT X.K H p xs∧k=!xs.isEmpty)∨∃ kvs,H p=some (.dK kvs)∧k=!kvs.isEmpty:=e
  rcases e' with ⟨xs,hx,e'⟩ | ⟨xs,hx,e'⟩ | ⟨kvs,hx,e'⟩
  ·subst e'
   obtain ⟨its,r,pl,hz⟩:=I.list hx
   have hlen:=r.length
   exact wpAny_truthy_list pl.isList (by simp only [List.size_toArray]; omega) ⟨H,I.tok _,by rw [isEmpty_of r]; exact q⟩
  ·subst e'
   obtain ⟨its,r,pl,hz⟩:=I.tuple hx
   have hlen:=r.length
   exact truthy_tuple pl (by simp only [List.size_toArray]; omega) ⟨H,I.tok _,by rw [isEmpty_of r]; exact q⟩
  ·subst e'
   obtain ⟨hz,hS,vs,r,m⟩:kvs.length≤sizeLine∧(p == sysModules)=false∧∃ vs,KV kvs vs∧s.heap.DictOf (mixKind X.prog X.w) p vs:=I.hok p _ hx
   have hlen:kvs.length=vs.length:=Paired.length r
   exact wpAny_truthy_dict hS m (by omega) ⟨H,I.tok _,by rw [isEmpty_kv r]; exact q⟩
 | _=>exact (show False from e).elim
theorem pt_truth (ha:PE X a ta) (he:∀ whole,isTrue a X.env whole=(do let v ← whole; standAt a.pos; holding [v] (truthy v))) :
  PT X a (fun σ H Q=>ta σ H fun x H'=>∃ k,TruV X.K x H' k∧Q k H'):=by
 intro pins s σ H Q I h
 exact isTrue_plain (thn (ha pins s σ H _ I h) fun v s1 ⟨x,H1,I1,r1,q1⟩=>tru_ok pins s1 σ H1 x v Q I1 r1 q1) (he _)
theorem op_add_str:OpR X (binaryOp .Add) (fun x y H Q=>∃ i j,x=.str i∧y=.str j∧i.length+j.length≤sizeLine∧Q (.str (i++j)) H):=by
 intro pins s σ H x y v u Q I rx ry h
 obtain ⟨i,j,rfl,rfl,hz,q⟩:=h
 obtain ⟨t,rfl⟩:=rx
 obtain ⟨t',rfl⟩:=ry
 exact add_str (fun t' tk=>⟨.str (i++j),H,I.tok _,⟨_,rfl⟩,q⟩) hz
theorem vals1 {x:V}{us:List Value} (r:Vals [x] us):∃ u,us=[u]∧RelV x u:=by
 cases r with
 | cons r1 r2=>cases r2; exact ⟨_,rfl,r1⟩
theorem vals2 {x y:V}{us:List Value} (r:Vals [x,y] us):∃ u w',us=[u,w']∧RelV x u∧RelV y w':=by
 cases r with
 | cons r1 r2 =>
  cases r2 with
  | cons r3 r4=>cases r4; exact ⟨_,_,rfl,r1,r3⟩
theorem call_max2 (hc:X.calm=true):CallR X (.builtin "max") (fun xs H Q=>∃ i j,xs=[.int i,.int j]∧Q (.int (if j>i then j else i)) H):=by
 intro pins s σ H xs us Q I r h
 obtain ⟨i,j,rfl,q⟩:=h
 obtain ⟨u,w',rfl,⟨t,rfl⟩,⟨t',rfl⟩⟩:=vals2 r
 refine max_two_ints (I.ok.hd hc) fun h' tk k=>⟨_,H,I.kept k,?_,q⟩
 by_cases hj:j>i
 ·rw [if_pos hj,if_pos hj]; exact ⟨_,rfl⟩
 ·rw [if_neg hj,if_neg hj]; exact ⟨_,rfl⟩
theorem call_min2 (hc:X.calm=true):CallR X (.builtin "min") (fun xs H Q=>∃ i j,xs=[.int i,.int j]∧Q (.int (if j<i then j else i)) H):=by
 intro pins s σ H xs us Q I r h
 obtain ⟨i,j,rfl,q⟩:=h
 obtain ⟨u,w',rfl,⟨t,rfl⟩,⟨t',rfl⟩⟩:=vals2 r
 refine min_two_ints (I.ok.hd hc) fun h' tk k=>⟨_,H,I.kept k,?_,q⟩
 by_cases hj:j<i
 ·rw [if_pos hj,if_pos hj]; exact ⟨_,rfl⟩
 ·rw [if_neg hj,if_neg hj]; exact ⟨_,rfl⟩
theorem call_int1:CallR X (.type "int") (fun xs H Q=>(∃ i,xs=[.int i]∧Q (.int i) H)∨∃ k,xs=[.bl k]∧Q (.int (if k then 1 else 0)) H):=by
 intro pins s σ H xs us Q I r h
 rcases h with ⟨i,rfl,q⟩ | ⟨k,rfl,q⟩
 ·obtain ⟨u,rfl,t,rfl⟩:=vals1 r
  exact call_int_int ⟨.int i,H,I,⟨_,rfl⟩,q⟩
 ·obtain ⟨u,rfl,r1⟩:=vals1 r
  cases r1
  exact call_int_bool ⟨.int (if k then 1 else 0),H,I.tok _,⟨_,rfl⟩,q⟩
theorem call_str_int:CallR X (.type "str") (fun xs H Q=>∃ i,xs=[.int i]∧i.natAbs.log2<1920∧Q (.str (toString i)) H):=by
 intro pins s σ H xs us Q I r h
 obtain ⟨i,rfl,hz,q⟩:=h
 obtain ⟨u,rfl,t,rfl⟩:=vals1 r
 exact PySem.P.str_of_int hz ⟨.str _,H,I.tok _,⟨_,rfl⟩,q⟩
end
theorem RelO.some_of {v:V}{o:Option Value} (r:RelO (some v) o):∃ u,o=some u∧RelV v u:=by
 cases o with
 | none=>exact (show False from r).elim
 | some u=>exact ⟨u,rfl,r⟩
structure Room (k:Nat) (A:Around):Prop where
 hd:A.handled=none
 dp:A.depth+3*k+5<recursionLimit
 un:A.units+16*k+200<cLine
 gd:A.guards=some []
theorem Room.mono {j k:Nat}{A:Around} (r:Room k A) (h:j≤k):Room j A:=⟨r.hd,by have:=r.dp; omega,by have:=r.un; omega,r.gd⟩
theorem Room.deeper {k:Nat}{A:Around} (r:Room (k+1) A) (env:Env):Room k (A.deeper env) :=
 ⟨r.hd,by have:=r.dp; show A.depth+1+3*k+5<_; omega,by have:=r.un; show A.units+3+16*k+200<_; omega,r.gd⟩
theorem Room.depth {k:Nat}{A:Around} (r:Room k A):A.depth<recursionLimit:=by have:=r.dp; omega
theorem Room.units {k:Nat}{A:Around} (r:Room k A):A.units+64<cLine:=by have:=r.un; omega
theorem Room.units0 {k:Nat}{A:Around} (r:Room k A):A.units<cLine:=by have:=r.un; omega
noncomputable def tNil:TA:=fun _ H Q=>Q [] H
noncomputable def tCons (ta:TE) (tr:TA):TA:=fun σ H Q=>ta σ H fun x H1=>tr σ H1 fun xs H2=>Q (x::xs) H2
section
variable {X:Cx}{e:Expr}{es:List Expr}{te:TE}{t:TA}{pos:Pos}
theorem pa_nil:PA X [] tNil:=fun _ _ _ _ H Q I h=>Calls.spliced_nil ⟨[],H,I,.nil,h⟩
theorem pa_cons (ha:PE X e te) (hr:PA X es t) (hs:starEach (e::es) X.env=(false,eval e X.env)::starEach es X.env:=by rfl):PA X (e::es) (tCons te t):=by
 intro pos pins s σ H Q I h
 rw [hs]
 show wpAny _ _ (spliced ((false,eval e X.env)::backTo pos (starEach es X.env))) _ _ s
 refine Calls.spliced_cons (thn (ha pins s σ H _ I h) fun u s1 ⟨x,H1,I1,r1,q1⟩=>?_)
 exact thn (hr pos pins s1 σ H1 _ I1 q1) fun us s2 ⟨xs,H2,I2,r2,q2⟩=>⟨x::xs,H2,I2,.cons r1 r2,q2⟩
noncomputable def tTup (t:TA):TE:=fun σ H Q=>t σ H fun xs H1=>xs.length≤sizeLine∧∀ p,H1 p=none→Q (.ref p) (upd H1 p (.tup xs))
noncomputable def tLst (t:TA):TE:=fun σ H Q=>t σ H fun xs H1=>xs.length≤sizeLine∧∀ p,H1 p=none→Q (.ref p) (upd H1 p (.lst xs))
theorem pe_tup {x1} (h:PA X es t):PE X (.Tuple es x1 pos) (tTup t):=by
 intro pins s σ H Q I hq
 refine wpAny_Tuple_spliced (thn (h pos pins s σ H _ I hq) fun us s1 ⟨xs,H1,I1,r,z,q⟩=>⟨by rw [← r.length]; exact z,?_⟩)
 have hf:H1 s1.heap.objs.size=none:=I1.hok.fresh (Nat.le_refl _)
 refine ⟨.ref s1.heap.objs.size,upd H1 s1.heap.objs.size (.tup xs),I1.laid (t':=s1.toks) (fun b u e=>Heap.get?_push_of_some _ e) (Nat.le_refl _) ?_,rfl,q _ hf⟩
 exact ⟨z,us,r,⟨_,Heap.get?_push_size _ rfl,rfl,_,rfl⟩⟩
theorem pe_lst (h:PA X es t):PE X (.List es pos) (tLst t):=by
 intro pins s σ H Q I hq
 refine wpAny_List_spliced (thn (h pos pins s σ H _ I hq) fun us s1 ⟨xs,H1,I1,r,z,q⟩=>⟨by rw [← r.length]; exact z,?_⟩)
 have hf:H1 s1.heap.objs.size=none:=I1.hok.fresh (Nat.le_refl _)
 refine ⟨.ref s1.heap.objs.size,upd H1 s1.heap.objs.size (.lst xs),I1.laid (t':=s1.toks) (fun b u e=>Heap.get?_push_of_some _ e) (Nat.le_refl _) ?_,rfl,q _ hf⟩
 exact ⟨z,us,0,r,Heap.get?_push_size _ rfl⟩
end
noncomputable abbrev Sp:=List V→Hp→VK→XK→Prop
noncomputable abbrev CXT:=List Env→Hp→Shared→XK→Value→Shared→Prop
structure Env0 (P:Program) (w:World) (K:W.Frag) (mg:Str→Option Value) (base:Heap) (A:Around) (outer:List Env) (s:Shared) (H:Hp):Prop where
 frames:A.frames=some outer
 mod:Mod K mg base
 bs:∀ b o,base.get? b=some o→s.heap.get? b=some o∧H b=none
 bsz:base.objs.size≤s.heap.objs.size
 funs:s.heap.FunFrames base outer
 frf:∀ b∈frs outer,H b=none
 hok:HOk P w H s.heap
 bare:AllBare s.gens
def CE (outer:List Env) (P:Program) (w:World) (H:Hp) (s:Shared) (Q:VK) (u:Value) (s':Shared):Prop :=
 ∃ v H',s'.os=s.os∧AllBare s'.gens∧Un (frs outer) [] H H' s.heap s'.heap∧HOk P w H' s'.heap∧RelV v u∧Q v H'
def CR (CX:CXT) (outer:List Env) (P:Program) (w:World) (H:Hp) (s:Shared) (Q:VK) (E:XK) (r:Result) (s':Shared):Prop :=
 match r with
 | .ok (.ret u)=>CE outer P w H s Q u s'
 | .ok _=>False
 | .error e=>CX outer H s E e s'
structure FnOk (P:Program) (w:World) (K:W.Frag) (mg:Str→Option Value) (base:Heap) (CX:CXT) (k:Nat) (f:Addr) (fd:FuncData) (ps:List Str) (sp:Sp):Prop where
 len:∀ vs H Q E,sp vs H Q E→vs.length=ps.length
 run:∀ (A:Around) (outer:List Env) (s:Shared) (H:Hp) (args:Args) (us:List Value) (vs:List V) (Q:VK) (E:XK),Room k A→Env0 P w K mg base A outer s H→BindsTo s fd args (ps.zip us)→Vals vs us→sp vs H Q E →
  codeAny (model P w) A (.call (.ref f) args) (CR CX outer P w H s Q E) s
theorem FnOk.imp {P:Program}{w:World}{K:W.Frag}{mg:Str→Option Value}{base:Heap}{CX:CXT}{k:Nat}{f:Addr}{fd:FuncData}{ps:List Str}{sp sp':Sp} (F:FnOk P w K mg base CX k f fd ps sp)
  (h:∀ vs H Q E,sp' vs H Q E→sp vs H Q E):FnOk P w K mg base CX k f fd ps sp' :=
 ⟨fun vs H Q E q=>F.len vs H Q E (h _ _ _ _ q),fun A outer s H args us vs Q E hr he hb hv hs=>F.run A outer s H args us vs Q E hr he hb hv (h _ _ _ _ hs)⟩
section
variable {X:Cx}{pins:List (Addr × Obj)}{σ:St}{H:Hp}{s s':Shared}
theorem Inv.env0 (I:Inv X pins σ H s):Env0 X.prog X.w X.K X.mg X.base X.A X.stack s H :=
 ⟨I.ok.frames,I.ok.mod,I.bs,Nat.le_trans I.ok.bsz I.sz,I.stack,I.stkFree,I.hok,I.bare⟩
theorem Inv.after {Q:VK}{u:Value} (I:Inv X pins σ H s) (h:CE X.stack X.prog X.w H s Q u s'):EP X pins σ Q u s':=by
 obtain ⟨v,H',os,bare,un,hok,r,q⟩:=h
 obtain ⟨hh,g,d,t,os'⟩:=s'
 obtain rfl:os'=s.os:=os
 exact ⟨v,H',I.call (h':=hh) (g':=g) (d':=d) (t':=t) (ch:=[]) un hok bare (fun b z=>absurd z (by simp)),r,q⟩
end
noncomputable def tCall (sp:Sp) (dvs:List V) (E:XK) (t:TA):TE:=fun σ H Q=>t σ H fun vs H1=>sp (vs++dvs) H1 Q E
def Binds (K:W.Frag) (fd:FuncData) (ps:List Str) (ds:List Value):Prop :=
 ∀ (s:Shared) (us:List Value),K.In s.heap→(us++ds).length=ps.length→BindsTo s fd ⟨us,[]⟩ (ps.zip (us++ds))
theorem Binds.all {K:W.Frag}{fd:FuncData}{ps:List Str} (h:∀ us:List Value,us.length=ps.length→bindArgs fd ⟨us,[]⟩=pure (ps.zip us)):Binds K fd ps []:=fun s us _ hl=>by
 rw [List.append_nil] at hl ⊢
 exact .of_eq (h us hl)
def Passes (CX:CXT) (X:Cx) (E:XK):Prop:=∀ (pins:List (Addr × Obj)) (σ:St) (H:Hp) (s:Shared) (e:Value) (s':Shared),Inv X pins σ H s→CX X.stack H s E e s'→X.xe e s'
section
variable {X:Cx}{CX:CXT}{k:Nat}{f C:Addr}{fd:FuncData}{ps:List Str}{sp:Sp}{dvs:List V}{ds:List Value}{E:XK}{x m:Str}{p pos apos:Pos}{e o:Expr}{es:List Expr}{ta:TE}{t:TA}
theorem run_fn {pins:List (Addr × Obj)}{σ:St}{H:Hp}{s:Shared}{Q:VK}{us:List Value}{vs:List V} (F:FnOk X.prog X.w X.K X.mg X.base CX k f fd ps sp) (hr:Room k X.A) (hb:Binds X.K fd ps ds) (hd:Vals dvs ds) (hx:Passes CX X E)
  (I:Inv X pins σ H s) (r:Vals vs us) (h:sp (vs++dvs) H Q E):wpAny (model X.prog X.w) X.A (call (.ref f) us) (EP X pins σ Q) X.xe s:=by
 have r2:Vals (vs++dvs) (us++ds):=r.append hd
 have hl:(us++ds).length=ps.length:=by rw [← r2.length]; exact F.len _ _ _ _ h
 refine wpAny_call (codeAny_mono (F.run X.A X.stack s H ⟨us,[]⟩ (us++ds) (vs++dvs) Q E hr I.env0 (hb s us I.kIn hl) r2 h) fun r s' hq=>?_)
 cases r with
 | error e=>exact hx pins σ H s e s' I hq
 | ok fl =>
  cases fl with
  | ret u=>exact I.after hq
  | next=>exact False.elim hq
  | brk=>exact False.elim hq
  | cont=>exact False.elim hq
theorem pe_call (F:FnOk X.prog X.w X.K X.mg X.base CX k f fd ps sp) (hr:Room k X.A) (hg:Gl X x) (hm:X.mg x=some (.ref f)) (hk:W.keepIn X.K (.ref f)=true) (hb:Binds X.K fd ps ds) (hd:Vals dvs ds) (hx:Passes CX X E)
  (ha:PA X (e::es) t) (hdb:(x == ("__debug__":Str))=false:=by decide) (he:starEach (e::es) X.env=(false,eval e X.env)::starEach es X.env:=by rfl) (hpl:(backTo pos (starEach es X.env)).any (·.1)=false:=by rfl) :
  PE X (.Call (.Name x p) (e::es) [] pos) (tCall sp dvs E t):=by
 intro pins s σ H Q I h
 refine wpAny_Call_Name_kw (ld_glob I hg hm ?_ hdb)
 refine W.callWith_K (h₀:=X.base) I.ok.mod.kin hk (thn (ha pos pins s σ H _ I h) fun us s1 ⟨vs,H1,I1,r,q⟩=>⟨I1.kIn,?_⟩) he hpl
 exact run_fn F hr hb hd hx I1 r q
end
structure FnScope (N P:List Str) (sc:Scope):Prop where
 kind:sc.kind=.function
 co:sc.isCoroutine=false
 gen:sc.isGenerator=false
 nd:N.Nodup
 pre:N.take P.length=P
 par:∀ x∈P,sc.names.lookup x=some .local∨sc.names.lookup x=some .cell
 nofree:∀ y∈sc.names,y.2≠.free
theorem bindL_out {kindOf:Str→Option NameKind}{x:Str}:∀ {binds:List (Str × Value)}{m:Str→Option Value},(∀ v,(x,v)∉binds)→bindL kindOf binds m x=m x
 | [],_,_=>rfl
 | (n,v)::r,m,h=>by
  unfold bindL
  rw [bindL_out fun w hw=>h w (List.mem_cons_of_mem _ hw)]
  split
  ·have:x≠n:=by rintro rfl; exact h v List.mem_cons_self
   simp [this]
  ·rfl
theorem bindC_out {kindOf:Str→Option NameKind}{x:Str}:∀ {binds:List (Str × Value)}{m:Str→Option Value},(∀ v,(x,v)∉binds)→bindC kindOf binds m x=m x
 | [],_,_=>rfl
 | (n,v)::r,m,h=>by
  unfold bindC
  rw [bindC_out fun w hw=>h w (List.mem_cons_of_mem _ hw)]
  split
  ·rfl
  ·have:x≠n:=by rintro rfl; exact h v List.mem_cons_self
   simp [this]
theorem bindL_get {kindOf:Str→Option NameKind}{x:Str}{v:Value}:∀ {P:List Str}{vs:List Value}{i:Nat}{m:Str→Option Value},P.Nodup→P[i]?=some x→vs[i]?=some v→kindOf x=some .local →
  bindL kindOf (P.zip vs) m x=some v
 | [],_,_,_,_,h,_,_=>by simp at h
 | _::_,[],_,_,_,_,h,_=>by simp at h
 | p::P,w::vs,0,m,nd,h1,h2,hk=>by
  simp at h1 h2; subst h1; subst h2
  show bindL kindOf ((p,w)::P.zip vs) m p=_
  unfold bindL
  rw [bindL_out fun v hv=>(List.nodup_cons.mp nd).1 (List.of_mem_zip hv).1,if_pos hk]
  simp
 | p::P,w::vs,i+1,m,nd,h1,h2,hk=>by
  show bindL kindOf ((p,w)::P.zip vs) m x=_
  unfold bindL
  exact bindL_get (i:=i) (List.nodup_cons.mp nd).2 (by simpa using h1) (by simpa using h2) hk
theorem bindC_get {kindOf:Str→Option NameKind}{x:Str}{v:Value}:∀ {P:List Str}{vs:List Value}{i:Nat}{m:Str→Option Value},P.Nodup→P[i]?=some x→vs[i]?=some v→kindOf x≠some .local →
  bindC kindOf (P.zip vs) m x=some v
 | [],_,_,_,_,h,_,_=>by simp at h
 | _::_,[],_,_,_,_,h,_=>by simp at h
 | p::P,w::vs,0,m,nd,h1,h2,hk=>by
  simp at h1 h2; subst h1; subst h2
  show bindC kindOf ((p,w)::P.zip vs) m p=_
  unfold bindC
  rw [bindC_out fun v hv=>(List.nodup_cons.mp nd).1 (List.of_mem_zip hv).1,if_neg hk]
  simp
 | p::P,w::vs,i+1,m,nd,h1,h2,hk=>by
  show bindC kindOf ((p,w)::P.zip vs) m x=_
  unfold bindC
  exact bindC_get (i:=i) (List.nodup_cons.mp nd).2 (by simpa using h1) (by simpa using h2) hk
noncomputable def start (N:List Str) (vs:List V):St:=vs.map some++List.replicate (N.length - vs.length) none
noncomputable def cxOf (CX:CXT) (P:Program) (w:World) (K:W.Frag) (mg:Str→Option Value) (base:Heap) (N:List Str) (qual:Str) (scope:Scope) (f:Addr) (cd:Value) (A:Around) (outer:List Env) (s:Shared) (H:Hp) (E:XK):Cx where
 prog:=P
 w:=w
 K:=K
 mg:=mg
 base:=base
 A:=A.deeper (envOfC qual scope s.heap.objs.size f cd)
 N:=N
 s₀:=s
 H₀:=H
 env:=envOfC qual scope s.heap.objs.size f cd
 outer:=outer
 stack:=envOfC qual scope s.heap.objs.size f cd::outer
 ex:=[]
 calm:=true
 fn:=fun _=>true
 pn:=[]
 xe:=fun e s'=>wpAny (model P w) (A.deeper (envOfC qual scope s.heap.objs.size f cd)) (leaving (envOfC qual scope s.heap.objs.size f cd) e) (fun _ s''=>CX outer H s E e s'') (fun e' s''=>CX outer H s E e' s'') s'
theorem cell_has {sc:Scope}{n:Nat}{x:Str} (h:sc.names.lookup x=some .cell):∃ c,(cellsFrom n sc.names []).lookup x=some c:=by
 have q:=W.cellsFrom_some sc.names n [] (.inl h)
 exact Option.isSome_iff_exists.mp q
theorem inv_start {CX:CXT}{P:Program}{w:World}{K:W.Frag}{mg:Str→Option Value}{base:Heap}{N ps:List Str}{qual:Str}{scope:Scope}{f:Addr}{cd:Value}{A:Around}{outer:List Env}{s s1:Shared}{H:Hp}{E:XK}{us:List Value}{vs:List V}
  (S:FnScope N ps scope) (hd:A.handled=none) (e0:Env0 P w K mg base A outer s H) (hl:vs.length=ps.length) (r:Vals vs us)
  (x:InCallC s s.heap.objs.size (bindL (envOfC qual scope s.heap.objs.size f cd).kindOf (ps.zip us) fun _=>none) (cellsFrom (s.heap.objs.size+1) scope.names []) (bindC (envOfC qual scope s.heap.objs.size f cd).kindOf (ps.zip us) fun _=>none) s1) :
  Inv (cxOf CX P w K mg base N qual scope f cd A outer s H E) [] (start N vs) H s1:=by
 have hpl:ps.length≤N.length:=by have:=congrArg List.length S.pre; rw [List.length_take] at this; omega
 obtain ⟨h1,tk,rfl,hk⟩:=x.done
 have noA:∀ b:Addr,b∉(cxOf CX P w K mg base N qual scope f cd A outer s H E).ex:=fun b z=>absurd (show b∈([]:List Addr) from z) (by simp)
 refine ⟨⟨e0.mod,S.kind,rfl,rfl,Nat.le_refl _,fun y z c h1 h2=>?_,fun y hy=>?_,fun y c _ h=>?_,fun _=>hd,Around.frames_deeper e0.frames,.inr ⟨rfl,rfl⟩,fun b z=>absurd z (noA b),e0.bs,e0.bsz,fun b _ _=>noA b,fun b z=>absurd z (noA b),e0.funs,e0.frf⟩,
  rfl,e0.bare,Un.kept hk,⟨_,x.toInCall.ns,fun i y v h1 h2 h3=>?_⟩,fun y c h=>⟨_,x.cell y c h⟩,e0.hok.fresh (Nat.le_refl _),fun y c h=>?_,fun p hp=>absurd (show p∈([]:List (Addr × Obj)) from hp) (by simp),e0.hok.kept hk,?_⟩
 ·exact name_of_addr x.apart (PySem.mem_of_lookup h1) (PySem.mem_of_lookup h2)
 ·have hy:scope.names.lookup y=some .cell∨scope.names.lookup y=some .free:=hy
  rcases hy with hy | hy
  ·exact cell_has hy
  ·exact absurd rfl (S.nofree _ (PySem.mem_of_lookup hy))
 ·exact Nat.le_of_lt (x.above y c (PySem.mem_of_lookup h))
 ·have hi:i<vs.length:=by
   unfold start at h2
   by_cases hi:i<vs.length
   ·exact hi
   ·rw [List.getElem?_append_right (by simpa using hi)] at h2
    rw [List.getElem?_replicate] at h2
    split at h2 <;> cases h2
  have ha:vs[i]?=some v:=by
   unfold start at h2
   rw [List.getElem?_append_left (by simpa using hi),List.getElem?_map] at h2
   cases e:vs[i]? with
   | none=>rw [e] at h2; cases h2
   | some a=>rw [e] at h2; cases h2; rfl
  obtain ⟨u,hu,rv⟩:=r.get ha
  have hp:ps[i]?=some y:=by
   rw [← S.pre,List.getElem?_take_of_lt (by omega)]; exact h1
  have ndP:ps.Nodup:=by rw [← S.pre]; exact S.nd.sublist (List.take_sublist _ _)
  refine ⟨u,rv,?_⟩
  rcases S.par y (List.mem_of_getElem? hp) with k | k
  ·exact .inl ⟨k,bindL_get ndP hp hu k⟩
  ·obtain ⟨c,e⟩:=cell_has (n:=s.heap.objs.size+1) k
   refine .inr ⟨.inl k,c,e,?_⟩
   have q:=x.cell y c e
   rw [bindC_get ndP hp hu (by show scope.names.lookup y≠_; rw [k]; decide)] at q
   exact q
 ·exact e0.hok.fresh (Nat.le_of_lt (x.above y c (PySem.mem_of_lookup h)))
 ·unfold start
  show _=N.length
  rw [List.length_append,List.length_map,List.length_replicate]
  omega
theorem fn_of {CX:CXT}{P:Program}{w:World}{K:W.Frag}{mg:Str→Option Value}{base:Heap}{k:Nat}{f:Addr}{name qual:Str}{params:Arguments}{body:List Stmt}{scope:Scope}{dV kV doc pm cdv ct oc:Value}{an od:Option Addr}
  {osl:Array (Option Value)}{N ps:List Str}{sp:Sp} (lk:K.lookup f=some ⟨oc,od,.func (W.fnOf name qual params body scope dV kV doc pm an cdv ct),osl⟩) (hcd:W.codeIn K cdv qual=true) (S:FnScope N ps scope)
  (len:∀ vs H Q E,sp vs H Q E→vs.length=ps.length)
  (hbody:∀ (A:Around) (outer:List Env) (s:Shared) (H:Hp) (vs:List V) (Q:VK) (E:XK),Room k (A.deeper (envOfC qual scope s.heap.objs.size f cdv))→sp vs H Q E →
   ∃ t,PSs (cxOf CX P w K mg base N qual scope f cdv A outer s H E) body t∧t { nx:=fun _ H'=>Q .non H',rt:=Q } (start N vs) H) :
  FnOk P w K mg base CX (k+1) f (W.fnOf name qual params body scope dV kV doc pm an cdv ct) ps sp:=by
 refine ⟨len,fun A outer s H args us vs Q E hr e0 hb r hsp=>?_⟩
 have hl:=len _ _ _ _ hsp
 have KX:K.In s.heap:=e0.mod.kin.keeps fun b o e=>(e0.bs b o e).1
 have lim:s.heap.NoLimit:=e0.mod.nolimit.keeps fun b o e=>(e0.bs b o e).1
 have hkind:∀ y∈ps.zip us,scope.names.lookup y.1=some .local∨(scope.names.lookup y.1=some .cell∧((cellsFrom (s.heap.objs.size+1) scope.names []).lookup y.1).isSome=true):=fun ⟨n,v⟩ hy=>by
  rcases S.par n (List.of_mem_zip hy).1 with q | q
  ·exact .inl q
  ·exact .inr ⟨q,W.cellsFrom_some _ _ _ (.inl q)⟩
 refine codeAny_call_function hr.depth (KX _ _ lk) rfl S.co S.gen rfl (W.codeRec_of KX hcd) (hb _ _ _ _ ?_)
 refine wpAny_newFunctionEnv_cells S.kind hkind fun env he s1 x=>?_
 subst he
 refine ⟨lim.keeps x.toInCall.keep,codeAny_func ?_⟩
 obtain ⟨t,ht,hq⟩:=hbody A outer s H vs Q E (hr.deeper _) hsp
 have I:Inv (cxOf CX P w K mg base N qual scope f cdv A outer s H E) [] (start N vs) H s1:=inv_start S hr.hd e0 hl r x
 refine wpAny_mono (ht [] s1 (start N vs) H _ I hq) (fun fl s' hs=>?_) fun e s' hs=>hs
 have fin:∀ {σ':St}{H':Hp}{v:V}{u:Value},Inv (cxOf CX P w K mg base N qual scope f cdv A outer s H E) [] σ' H' s'→RelV v u→Q v H'→CE outer P w H s Q u s' :=
  fun {σ' H' v u} J rv q=>⟨v,H',J.os,J.bare,J.base,J.hok,rv,q⟩
 cases fl with
 | ret u =>
  obtain ⟨v,σ',H',J,rv,q⟩:=hs
  exact fin J rv q
 | next =>
  obtain ⟨σ',H',J,q⟩:=hs
  exact fin (v:=V.non) (u:=Value.none) J rfl q
 | brk =>
  obtain ⟨_,_,_,q⟩:=hs
  exact False.elim q
 | cont =>
  obtain ⟨_,_,_,q⟩:=hs
  exact False.elim q
section
variable {X:Cx}{x:Str}{p pos:Pos}{e:Expr}{es:List Expr}{t:TA}{id T:String}{r:List V→Hp→VK→Prop}
noncomputable def tCB (r:List V→Hp→VK→Prop) (t:TA):TE:=fun σ H Q=>t σ H fun vs H1=>r vs H1 Q
theorem pe_callB (hc:CallR X (.builtin id) r) (hg:Gl X x) (hm:X.mg x=none) (hv:bootBuiltins x=some (.builtin id)) (ha:PA X (e::es) t) (hn:x ≠ "__name__":=by decide) (hdb:(x == ("__debug__":Str))=false:=by decide)
  (he:starEach (e::es) X.env=(false,eval e X.env)::starEach es X.env:=by rfl) (hpl:(backTo pos (starEach es X.env)).any (·.1)=false:=by rfl):PE X (.Call (.Name x p) (e::es) [] pos) (tCB r t):=by
 intro pins s σ H Q I h
 refine wpAny_Call_Name_kw (ld_blt I hg hm hv ?_ hn hdb)
 exact PyProof.Rows.callWith_builtin1 (thn (ha pos pins s σ H _ I h) fun us s1 ⟨vs,H1,I1,r1,q1⟩=>hc pins s1 σ H1 vs us Q I1 r1 q1) he hpl
theorem pe_callTy (hc:CallR X (.type T) r) (hg:Gl X x) (hm:X.mg x=none) (hv:bootBuiltins x=some (.type T)) (ha:PA X (e::es) t) (hn:x ≠ "__name__":=by decide) (hdb:(x == ("__debug__":Str))=false:=by decide)
  (he:starEach (e::es) X.env=(false,eval e X.env)::starEach es X.env:=by rfl) (hpl:(backTo pos (starEach es X.env)).any (·.1)=false:=by rfl):PE X (.Call (.Name x p) (e::es) [] pos) (tCB r t):=by
 intro pins s σ H Q I h
 refine wpAny_Call_Name_kw (ld_blt I hg hm hv ?_ hn hdb)
 exact PyProof.Rows.callWith_type1 (thn (ha pos pins s σ H _ I h) fun us s1 ⟨vs,H1,I1,r1,q1⟩=>hc pins s1 σ H1 vs us Q I1 r1 q1) he hpl
end
end L2
namespace HT
open PySem PyProof.Rows
section
variable {prog:Program}{w:World}{A:Around}{E:Value→Shared→Prop}{s:Shared}
theorem cat_tup {t b:Addr}{vs ws:List Value}{Q:Value→Shared→Prop} (ht:IsTup s.heap t vs.toArray) (hb:IsTup s.heap b ws.toArray) (hv:vs≠[])
  (h1:ws=[]→Q (.ref t) s) (h2:ws≠[]→Q (.ref s.heap.objs.size) { s with heap:=s.heap.push { cls:=.type "tuple",data:=.seq (vs++ws).toArray } })
  (hsz:vs.length+ws.length≤sizeLine):wpAny (model prog w) A (binaryOp .Add (.ref t) (.ref b)) Q E s:=by
 obtain ⟨⟨cls,dd,data,sl⟩,ho,hc,n,hd⟩:=id ht
 obtain ⟨⟨cls2,dd2,data2,sl2⟩,ho2,hc2,n2,hd2⟩:=id hb
 simp only at hc hd hc2 hd2
 subst hc hd hc2 hd2
 have e:vs.toArray++ws.toArray=(vs++ws).toArray:=by simp
 by_cases hw:ws=[]
 ·exact concat_meets ⟨_,ho,rfl⟩ ⟨_,ho2,rfl⟩ noFill_tuple_add seq_tuple_add PySem.F.slot_tuple_add PySem.F.entry_tuple_add (PySem.F.args_tuple_add_2 _ _)
   (tuple_addW1 t b vs.toArray ws.toArray n n2 dd dd2 sl sl2 (by simpa using hv) (by simp [hw])) ⟨ho,ho2,h1 hw⟩
 ·refine concat_meets ⟨_,ho,rfl⟩ ⟨_,ho2,rfl⟩ noFill_tuple_add seq_tuple_add PySem.F.slot_tuple_add PySem.F.entry_tuple_add (PySem.F.args_tuple_add_2 _ _)
   (tuple_addW2 t b vs.toArray ws.toArray n n2 dd dd2 sl sl2 (by simpa using hv) (by simpa using hw) (by rw [List.size_toArray,List.size_toArray]; exact hsz)) ⟨ho,ho2,?_⟩
  rw [e]
  exact h2 hw
noncomputable def sIx (n d:Nat):Option Int→Nat
 | none=>d
 | some v=>if v<0 then (v+(n:Int)).toNat else min v.toNat n
theorem sIx_none (n d:Nat):sIx n d none=d:=rfl
theorem sIx_nat (n d k:Nat):sIx n d (some (k:Int))=min k n:=by
 show (if (k:Int)<0 then ((k:Int)+(n:Int)).toNat else min (k:Int).toNat n)=min k n
 rw [if_neg (by omega),Int.toNat_natCast]
theorem sIx_le (n d:Nat) (hd:d≤n) (o:Option Int):sIx n d o≤n:=by
 cases o with
 | none=>exact hd
 | some v =>
  show (if v<0 then (v+(n:Int)).toNat else min v.toNat n)≤n
  by_cases hv:v<0
  ·rw [if_pos hv]; omega
  ·rw [if_neg hv]; exact Nat.min_le_right _ _
theorem clip_eq (v:Int) (n d:Nat):(if v<0 then max (v+(n:Int)) 0 else min v (n:Int))=((sIx n d (some v):Nat):Int):=by
 show (if v<0 then max (v+(n:Int)) 0 else min v (n:Int))=(((if v<0 then (v+(n:Int)).toNat else min v.toNat n):Nat):Int)
 by_cases hv:v<0
 ·simp only [if_pos hv]; omega
 ·simp only [if_neg hv]; omega
theorem adjust_gen (lo hi:Option Int) (n:Nat):Builtin.Slice.sliceAdjust lo hi 1 (n:Int)=(((sIx n 0 lo:Nat):Int),((sIx n n hi:Nat):Int)):=by
 have h1:¬ ((1:Int)<0):=by omega
 unfold Builtin.Slice.sliceAdjust
 simp only [h1,if_false]
 refine Prod.ext ?_ ?_
 ·cases lo with
  | none=>rfl
  | some v=>exact clip_eq v n 0
 ·cases hi with
  | none=>rfl
  | some v=>exact clip_eq v n n
theorem places_gen (i j:Nat):Builtin.Slice.slicePlaces (i:Int) (j:Int) 1=j - i:=by
 unfold Builtin.Slice.slicePlaces
 have h1:(1:Int)>0:=by omega
 simp only [h1,if_true,Int.ediv_one]
 split <;> omega
theorem slicePart_ {v:Value}{o:Option Int}{Q:Option Int→Shared→Prop} (p:IsPart v o) (h:Q o s):wpAny (model prog w) A (Builtin.Slice.slicePartIndex v) Q E s:=by
 cases p with
 | none=>exact slicePart_none h
 | int i t=>exact slicePart_int h
theorem sliceApplied_gen {sl:Addr}{vl vu:Value}{lo hi:Option Int}{n:Nat}{Q:Int × Int × Nat→Shared→Prop} (hs:s.heap.IsSliceOf sl vl vu .none) (pl:IsPart vl lo) (pu:IsPart vu hi)
  (h:Q (((sIx n 0 lo:Nat):Int),1,sIx n n hi - sIx n 0 lo) s):wpAny (model prog w) A (Builtin.Slice.sliceApplied (.ref sl) (pure (n:Int))) Q E s:=by
 obtain ⟨os,hos,hcs,hds⟩:=id hs
 unfold Builtin.Slice.sliceApplied Builtin.Slice.sliceFields
 refine wpAny_bind (wpAny_bind (wpAny_field hos hds (x:=vl) rfl (wpAny_bind (wpAny_field hos hds (x:=vu) rfl (wpAny_bind (wpAny_field hos hds (x:=.none) rfl (wpAny_pure ?_)))))))
 refine wpAny_bind (slicePart_none ?_)
 show wpAny _ _ (if ((1:Int) == 0)=true then _ else _) _ _ s
 rw [if_neg (by decide)]
 refine wpAny_bind (slicePart_ pl (wpAny_bind (slicePart_ pu (wpAny_bind (wpAny_pure ?_)))))
 show wpAny _ _ (match Builtin.Slice.sliceAdjust lo hi 1 (n:Int) with | (lo,hi)=>pure (lo,(1:Int),Builtin.Slice.slicePlaces lo hi 1)) _ _ s
 rw [adjust_gen lo hi n]
 show wpAny _ _ (pure (((sIx n 0 lo:Nat):Int),(1:Int),Builtin.Slice.slicePlaces ((sIx n 0 lo:Nat):Int) ((sIx n n hi:Nat):Int) 1)) _ _ s
 rw [places_gen]
 exact wpAny_pure h
theorem pick_gen (xs:Array Value) (i k:Nat):((List.range k).filterMap fun (m:Nat)=>xs[((i:Int)+(m:Int)*1).toNat]?).toArray=((xs.toList.drop i).take k).toArray:=by
 have e:(fun (m:Nat)=>xs[((i:Int)+(m:Int)*1).toNat]?)=fun m=>xs[i+m]?:=by
  funext m
  have:((i:Int)+(m:Int)*1).toNat=i+m:=by omega
  rw [this]
 rw [e]
 have:=pick_run xs i k
 rw [List.filterMap_map] at this
 have e2:((fun x=>xs[x]?)∘fun x=>i+x)=fun m=>xs[i+m]?:=rfl
 rw [e2] at this
 rw [this]
theorem getItem_tuple_cut {t sl:Addr}{items:Array Value}{vl vu:Value}{lo hi:Option Int}{Q:Value→Shared→Prop} (ht:IsTup s.heap t items) (hs:s.heap.IsSliceOf sl vl vu .none) (pl:IsPart vl lo) (pu:IsPart vu hi)
  (hw:¬ (sIx items.size 0 lo=0∧sIx items.size items.size hi=items.size))
  (h:Q (.ref s.heap.objs.size) { s with heap:=s.heap.push { cls:=.type "tuple",data:=.seq ((items.toList.drop (sIx items.size 0 lo)).take (sIx items.size items.size hi - sIx items.size 0 lo)).toArray } })
  (hsz:items.size≤sizeLine):wpAny (model prog w) A (getItem (.ref t) (.ref sl)) Q E s:=by
 have htake:sizeOk (.seq ((items.toList.drop (sIx items.size 0 lo)).take (sIx items.size items.size hi - sIx items.size 0 lo)).toArray):=by
  show ((items.toList.drop (sIx items.size 0 lo)).take (sIx items.size items.size hi - sIx items.size 0 lo)).toArray.size≤sizeLine
  rw [List.size_toArray,List.length_take,List.length_drop,Array.length_toList]
  omega
 have hj:sIx items.size items.size hi≤items.size:=sIx_le _ _ (Nat.le_refl _) hi
 obtain ⟨os,hos,hcs,hds⟩:=id hs
 have hTs:s.TypeIs (.ref sl) "slice":=⟨os,hos,hcs⟩
 unfold getItem
 try with_reducible refine wpAny_holding ?_
 first | refine wpAny_bind (wpAny_pure ?_) | skip
 refine wpAny_bind (wpAny_sequenceKey ht.typeIs (by decide) ?_)
 refine wpAny_bind (wpAny_callSpecial?_slot (name:=Str.ofString "__getitem__") ht.typeIs PyProof.Rows.slot_tuple_getitem
  (wpAny_call_entry PyProof.Rows.slot_tuple_getitem ht.typeIs entry_tuple_getitem ?_ (args_tuple_getitem _ _)))
 show wpAny _ _ (Builtin.Tuple.tupleItemsOf (.ref t) >>= _) _ _ s
 refine wpAny_bind (tupleItemsOf_ ht ?_)
 refine wpAny_bind (wpAny_typeOf hTs ?_)
 rw [if_pos (by decide)]
 refine wpAny_bind (sliceApplied_gen hs pl pu ?_)
 have hno:¬ ((((sIx items.size 0 lo:Nat):Int) == 0&&(1:Int) == 1&&(sIx items.size items.size hi - sIx items.size 0 lo) == items.size)=true):=by
  intro q
  rw [Bool.and_eq_true,Bool.and_eq_true] at q
  have q1:((sIx items.size 0 lo:Nat):Int)=0:=eq_of_beq q.1.1
  have q2:sIx items.size items.size hi - sIx items.size 0 lo=items.size:=eq_of_beq q.2
  exact hw ⟨by omega,by omega⟩
 show wpAny _ _ (if (((sIx items.size 0 lo:Nat):Int) == 0&&(1:Int) == 1&&(sIx items.size items.size hi - sIx items.size 0 lo) == items.size)=true then _ else _) _ _ s
 rw [if_neg hno,pick_gen]
 first
  | exact wpAny_bind (m:=Builtin.Tuple.tupleExact _) (wpAny_newObj_type (wpAny_pure ⟨_,rfl,wpAny_pure h⟩) htake)
  | exact wpAny_bind (m:=Builtin.Tuple.tupleExact _) (wpAny_newObj_type (wpAny_bind (wpAny_pure (wpAny_pure ⟨_,rfl,wpAny_pure h⟩))) htake)
  | exact wpAny_bind (wpAny_bind (m:=Builtin.Tuple.tupleExact _) (wpAny_newObj_type (wpAny_pure (wpAny_pure ⟨_,rfl,wpAny_pure h⟩)) htake))
  | exact wpAny_bind (wpAny_bind (m:=Builtin.Tuple.tupleExact _) (wpAny_newObj_type (wpAny_pure ⟨_,rfl,wpAny_pure h⟩) htake))
end
end HT
namespace L2
open PySem PySem.Spec PyProof.Rows
noncomputable abbrev TO:=St→Hp→(Option Int→Hp→Prop)→Prop
def PO (X:Cx) (e:Option Expr) (t:TO):Prop :=
 ∀ (pins:List (Addr × Obj)) (s:Shared) (σ:St) (H:Hp) (Q:Option Int→Hp→Prop),Inv X pins σ H s→t σ H Q →
  wpAny (model X.prog X.w) X.A (evalPart e X.env) (fun u s'=>∃ o H',Inv X pins σ H' s'∧IsPart u o∧Q o H') X.xe s
noncomputable def tNoPart:TO:=fun _ H Q=>Q none H
noncomputable def tPart (t:TE):TO:=fun σ H Q=>t σ H fun x H1=>∃ i,x=.int i∧Q (some i) H1
section
variable {X:Cx}{e:Expr}{te:TE}{lo hi:Option Expr}{tl th:TO}{pos p2:Pos}
theorem po_none:PO X none tNoPart:=by
 intro pins s σ H Q I h
 rw [evalPart_none]
 exact wpAny_pure ⟨none,H,I,.none,h⟩
theorem po_some (h:PE X e te):PO X (some e) (tPart te):=by
 intro pins s σ H Q I hw
 rw [evalPart_some]
 refine thn (h pins s σ H _ I hw) fun u s1 ⟨x,H1,I1,r1,q1⟩=>?_
 obtain ⟨i,rfl,q⟩:=q1
 obtain ⟨t,rfl⟩:=r1
 exact ⟨some i,H1,I1,.int i t,q⟩
def SlR (X:Cx) (r:V→Option Int→Option Int→Hp→VK→Prop):Prop :=
 ∀ (pins:List (Addr × Obj)) (s:Shared) (σ:St) (H:Hp) (x:V) (v vl vu:Value) (lo hi:Option Int) (sl:Addr) (Q:VK),Inv X pins σ H s→RelV x v→s.heap.IsSliceOf sl vl vu .none→IsPart vl lo→IsPart vu hi→r x lo hi H Q →
  ∃ T id,typeLookup (.type T) "__getitem__"=pure (some (.builtin id))∧s.TypeIs v T∧wpAny (model X.prog X.w) X.A (getItem v (.ref sl)) (EP X pins σ Q) X.xe s
noncomputable def tSl (r:V→Option Int→Option Int→Hp→VK→Prop) (te:TE) (tl th:TO):TE:=fun σ H Q=>te σ H fun x H1=>tl σ H1 fun l H2=>th σ H2 fun u H3=>r x l u H3 Q
theorem pe_slice {r:V→Option Int→Option Int→Hp→VK→Prop} (hr:SlR X r) (he:PE X e te) (hl:PO X lo tl) (hu:PO X hi th):PE X (.Subscript e (.Slice lo hi none p2) pos) (tSl r te tl th):=by
 intro pins s σ H Q I h
 refine Subscript_ (thn (he pins s σ H _ I h) fun v s1 ⟨x,H1,I1,r1,q1⟩=>?_)
 refine wpAny_Slice (thn (hl pins s1 σ H1 _ I1 q1) fun vl s2 ⟨l,H2,I2,pl,q2⟩=>thn (hu pins s2 σ H2 _ I2 q2) fun vu s3 ⟨u,H3,I3,pu,q3⟩=>?_)
 rw [evalPart_none]
 refine wpAny_pure ?_
 have I4:Inv X pins σ H3 { s3 with heap:=s3.heap.push { cls:=.type "slice",data:=.fields #[vl,vu,.none] } }:=I3.kept (t':=s3.toks) fun b ob q=>Heap.get?_push_of_some _ q
 obtain ⟨T,id,hT,ht,hg⟩:=hr pins { s3 with heap:=s3.heap.push { cls:=.type "slice",data:=.fields #[vl,vu,.none] } } σ H3 x v vl vu l u s3.heap.objs.size Q I4 r1 (Heap.IsSliceOf.new ..) pl pu q3
 show wpAny (model X.prog X.w) X.A (subscriptTail e (.Slice lo hi none p2) v (.ref s3.heap.objs.size)) (EP X pins σ Q) X.xe { s3 with heap:=s3.heap.push { cls:=.type "slice",data:=.fields #[vl,vu,.none] } }
 exact tail_any (ops:=[.ref s3.heap.objs.size,v]) ht hT hg (by with_unfolding_all rfl)
noncomputable def cutV (xs:List V) (lo hi:Option Int):List V:=(xs.drop (HT.sIx xs.length 0 lo)).take (HT.sIx xs.length xs.length hi - HT.sIx xs.length 0 lo)
theorem cutV_length (xs:List V) (lo hi:Option Int):(cutV xs lo hi).length≤xs.length:=by
 unfold cutV
 rw [List.length_take,List.length_drop]
 omega
noncomputable def rSlT (K:W.Frag):V→Option Int→Option Int→Hp→VK→Prop:=fun x lo hi H Q=>∃ a xs,x=.ref a∧SqT K H a xs ∧
 ¬ (HT.sIx xs.length 0 lo=0∧HT.sIx xs.length xs.length hi=xs.length)∧∀ p,H p=none→Q (.ref p) (upd H p (.tup (cutV xs lo hi)))
theorem sl_tup:SlR X (rSlT X.K):=by
 intro pins s σ H x v vl vu lo hi sl Q I rx hs pl pu h
 obtain ⟨a,xs,rfl,hx,hw,q⟩:=h
 cases rx
 obtain ⟨its,r,ht,hz⟩:=I.tuple hx
 have hlen:its.toArray.size=xs.length:=by rw [List.size_toArray]; exact r.length.symm
 refine ⟨"tuple",_,PyProof.Rows.slot_tuple_getitem.lookup,ht.typeIs,?_⟩
 refine HT.getItem_tuple_cut ht hs pl pu (by rw [hlen]; exact hw) ?_ (by rw [hlen]; exact hz)
 rw [hlen]
 refine ⟨.ref s.heap.objs.size,_,I.laid (t':=s.toks) (o:=.tup (cutV xs lo hi)) (fun b ob q=>Heap.get?_push_of_some _ q) (Nat.le_refl _) ?_,rfl,q _ (I.hok.fresh (Nat.le_refl _))⟩
 exact ⟨Nat.le_trans (cutV_length xs lo hi) hz,_,(r.drop (HT.sIx xs.length 0 lo)).take (HT.sIx xs.length xs.length hi - HT.sIx xs.length 0 lo),IsTup.new _ _⟩
noncomputable def rCatT (K:W.Frag):R2:=fun x y H Q=>∃ a b xs ys,x=.ref a∧y=.ref b∧SqT K H a xs∧SqT K H b ys∧xs≠[]∧xs.length+ys.length≤sizeLine ∧
 (ys=[]→Q (.ref a) H)∧(ys≠[]→∀ p,H p=none→Q (.ref p) (upd H p (.tup (xs++ys))))
theorem Vals.nil_iff {xs:List V}{us:List Value} (r:Vals xs us):us=[]↔xs=[]:=by
 cases r with
 | nil=>simp
 | cons _ _=>simp
theorem op_catT:OpR X (binaryOp .Add) (rCatT X.K):=by
 intro pins s σ H x y v u Q I rx ry h
 obtain ⟨a,b,xs,ys,rfl,rfl,ha,hb,hx,hz,q1,q2⟩:=h
 cases rx
 cases ry
 obtain ⟨its,r1,p1,_⟩:=I.tuple ha
 obtain ⟨its2,r2,p2,_⟩:=I.tuple hb
 refine HT.cat_tup p1 p2 (fun z=>hx (r1.nil_iff.mp z)) (fun z=>⟨.ref a,H,I,rfl,q1 (r2.nil_iff.mp z)⟩) (fun z=>?_) (by rw [← r1.length,← r2.length]; exact hz)
 refine ⟨.ref s.heap.objs.size,_,I.laid (t':=s.toks) (o:=.tup (xs++ys)) (fun b ob q=>Heap.get?_push_of_some _ q) (Nat.le_refl _) ?_,rfl,q2 (fun w=>z (r2.nil_iff.mpr w)) _ (I.hok.fresh (Nat.le_refl _))⟩
 exact ⟨by rw [List.length_append]; exact hz,_,r1.append r2,IsTup.new _ _⟩
end
noncomputable def ixN (n:Nat) (i:Int):Option Nat:=if 0≤i then (if i<n then some i.toNat else none) else if -(n:Int)≤i then some (i+n).toNat else none
noncomputable def atI {α:Type} (xs:List α) (i:Int):Option α:=(ixN xs.length i).bind fun j=>xs[j]?
theorem ixN_seq {n:Nat}{i:Int}{j:Nat} (h:ixN n i=some j):seqIndex? i n=some j∧j<n∧-(n:Int)≤i∧i<n:=by
 unfold ixN at h
 by_cases h0:0≤i
 ·rw [if_pos h0] at h
  by_cases h1:i<n
  ·rw [if_pos h1] at h
   have e:i.toNat=j:=Option.some.inj h
   exact ⟨by rw [seqIndex_of h0 h1,e],by omega,by omega,h1⟩
  ·rw [if_neg h1] at h; cases h
 ·rw [if_neg h0] at h
  by_cases h1:-(n:Int)≤i
  ·rw [if_pos h1] at h
   have e:(i+n).toNat=j:=Option.some.inj h
   exact ⟨by rw [seqIndex_neg (by omega) h1,e],by omega,h1,by omega⟩
  ·rw [if_neg h1] at h; cases h
theorem atI_get {α:Type}{xs:List α}{i:Int}{v:α} (h:atI xs i=some v):∃ j,seqIndex? i xs.length=some j∧xs[j]?=some v∧j<xs.length∧-(xs.length:Int)≤i∧i<xs.length:=by
 unfold atI at h
 cases e:ixN xs.length i with
 | none=>rw [e] at h; cases h
 | some j =>
  rw [e] at h
  obtain ⟨h1,h2,h3,h4⟩:=ixN_seq e
  exact ⟨j,h1,h,h2,h3,h4⟩
theorem atI_nat {α:Type}{xs:List α}{j:Nat}{v:α} (h:xs[j]?=some v):atI xs (j:Int)=some v:=by
 have hj:j<xs.length:=(List.getElem?_eq_some_iff.mp h).1
 have e:ixN xs.length (j:Int)=some j:=by
  unfold ixN
  rw [if_pos (by omega),if_pos (by omega)]; simp
 unfold atI; rw [e]; exact h
def PlainIx (b:Expr):Prop:=∀ o i,subscripted b false o i=operate [o,i] (getItem o i)
def IxR (X:Cx) (r:R2):Prop :=
 ∀ (value slice:Expr) (pins:List (Addr × Obj)) (s:Shared) (σ:St) (H:Hp) (x y:V) (v u:Value) (Q:VK),Inv X pins σ H s→RelV x v→RelV y u→r x y H Q →
  subscripted slice false v u=operate [v,u] (getItem v u)→wpAny (model X.prog X.w) X.A (subscriptTail value slice v u) (EP X pins σ Q) X.xe s
def MtR (X:Cx) (id:String) (r:V→List V→Hp→VK→Prop):Prop :=
 ∀ (pins:List (Addr × Obj)) (s:Shared) (σ:St) (H:Hp) (x:V) (xs:List V) (v:Value) (us:List Value) (Q:VK),Inv X pins σ H s→RelV x v→Vals xs us→r x xs H Q →
  wpAny (model X.prog X.w) X.A (call (.builtin id) (v::us)) (EP X pins σ Q) X.xe s
section
variable {X:Cx}{a b:Expr}{ta tb:TE}{pos:Pos}
theorem pe_ix {r:R2} (hr:IxR X r) (ha:PE X a ta) (hb:PE X b tb) (hs:PlainIx b):PE X (.Subscript a b pos) (tOp r ta tb):=by
 intro pins s σ H Q I h
 exact Subscript_ (binT ha hb I h fun v u s2 x y H2 I2 rx ry q=>hr a b pins s2 σ H2 x y v u Q I2 rx ry q (hs _ _))
noncomputable def rIxL (K:W.Frag):R2:=fun x y H Q=>∃ p xs i v,x=.ref p∧y=.int i∧SqL K H p xs∧atI xs i=some v∧Q v H
noncomputable def rIxT (K:W.Frag):R2:=fun x y H Q=>∃ p xs i v,x=.ref p∧y=.int i∧SqT K H p xs∧atI xs i=some v∧Q v H
noncomputable def rIxS:R2:=fun x y H Q=>∃ z i c,x=.str z∧y=.int i∧z.length≤sizeLine∧atI z.cps.toList i=some c∧Q (.str ⟨#[c]⟩) H
theorem ix_list:IxR X (rIxL X.K):=by
 intro value slice pins s σ H x y v u Q I rx ry h hs
 obtain ⟨p,xs,i,z,rfl,rfl,hq,he,q⟩:=h
 cases rx
 obtain ⟨t,rfl⟩:=ry
 obtain ⟨its,r,pl,hz⟩:=I.list hq
 obtain ⟨j,h1,h2,h3,h4,h5⟩:=atI_get he
 obtain ⟨w,ew,rw'⟩:=r.get h2
 have hl:=r.length
 have hn:=line63
 have fin:EP X pins σ Q w s:=⟨z,H,I,rw',q⟩
 by_cases h0:0≤i
 ·have hj:i.toNat=j:=by
   rw [seqIndex_of h0 h5] at h1
   exact Option.some.inj h1
  exact item_listR pl.isList h0 (by omega) (by rw [hj]; simpa using ew) fin hs
 ·have hj:(i+(its.toArray.size:Int)).toNat=j:=by
   rw [seqIndex_neg (by omega) h4] at h1
   rw [List.size_toArray,← hl]
   exact Option.some.inj h1
  exact subscriptTail_builtinR (x:=w) pl.isList.typeIs slot_list_getitem.lookup
   (wpAny_getItem_list_neg (Q:=fun r s'=>r=w∧EP X pins σ Q r s') pl.isList (by omega) (by rw [List.size_toArray] <;> omega) (by omega) (by rw [hj]; simpa using ew) ⟨rfl,fin⟩) hs
theorem ix_tup:IxR X (rIxT X.K):=by
 intro value slice pins s σ H x y v u Q I rx ry h hs
 obtain ⟨p,xs,i,z,rfl,rfl,hq,he,q⟩:=h
 cases rx
 obtain ⟨t,rfl⟩:=ry
 obtain ⟨its,r,pl,hz⟩:=I.tuple hq
 obtain ⟨j,h1,h2,h3,h4,h5⟩:=atI_get he
 obtain ⟨w,ew,rw'⟩:=r.get h2
 have hl:=r.length
 have hn:=line63
 have fin:EP X pins σ Q w s:=⟨z,H,I,rw',q⟩
 exact subscriptTail_builtinR (x:=w) pl.typeIs slot_tuple_getitem.lookup
  (getItem_tuple (j:=j) (Q:=fun r s'=>r=w∧EP X pins σ Q r s') pl (by omega) (by omega) (by rw [List.size_toArray,← hl]; exact h1) (by simpa using ew) ⟨rfl,fin⟩) hs
theorem ix_str:IxR X rIxS:=by
 intro value slice pins s σ H x y v u Q I rx ry h hs
 obtain ⟨z,i,c,rfl,rfl,hz,he,q⟩:=h
 obtain ⟨t,rfl⟩:=rx
 obtain ⟨t',rfl⟩:=ry
 obtain ⟨j,h1,h2,h3,h4,h5⟩:=atI_get he
 have hl:z.cps.toList.length=z.length:=by simp [Str.length]
 rw [hl] at h1 h4 h5
 have hn:=line63
 exact tail_any (typeIs_str s z t) slot_str_getitem.lookup (getItem_str (c:=c) (by
  have e1:decide (i < -(2 ^ 63:Int))=false:=decide_eq_false (by omega)
  have e2:decide (i≥2 ^ 63)=false:=decide_eq_false (by omega)
  rw [e1,e2,Bool.or_false]) (by rw [h1]; simpa using h2) ⟨.str ⟨#[c]⟩,H,I.tok _,⟨_,rfl⟩,q⟩) hs
theorem mapSeq_set (its:List Value) (n j:Nat) (u:Value):Obj.mapSeq (·.setIfInBounds j u) { cls:=.type "list",data:=.seq its.toArray n }={ cls:=.type "list",data:=.seq (its.set j u).toArray n }:=by
 simp [Obj.mapSeq]
theorem Inv.lst {pins:List (Addr × Obj)}{σ:St}{H:Hp}{s:Shared}{p:Addr}{xs:List V} (I:Inv X pins σ H s) (h:H p=some (.lst xs)) :
  ∃ (its:List Value) (n:Nat),Vals xs its∧s.heap.get? p=some { cls:=.type "list",data:=.seq its.toArray n }∧xs.length≤sizeLine:=by
 obtain ⟨z,its,n,r,e⟩:=I.hok p _ h
 exact ⟨its,n,r,e,z⟩
theorem Inv.lstUpd {pins:List (Addr × Obj)}{σ:St}{H:Hp}{s:Shared}{p:Addr}{xs ys:List V}{its its':List Value}{n n':Nat}{f:Obj→Obj} (I:Inv X pins σ H s) (h:H p=some (.lst xs))
  (ho:s.heap.get? p=some { cls:=.type "list",data:=.seq its.toArray n }) (hf:f { cls:=.type "list",data:=.seq its.toArray n }={ cls:=.type "list",data:=.seq its'.toArray n' }) (r:Vals ys its') (hz:ys.length≤sizeLine) (t:Nat) :
  Inv X pins σ (upd H p (.lst ys)) { s with heap:=s.heap.update p f,toks:=t }:=by
 have e:(s.heap.update p f).get? p=some { cls:=.type "list",data:=.seq its'.toArray n' }:=by
  rw [Heap.get?_update_self f ho (by rw [hf] <;> rfl),hf]
 refine I.write (x:=p) (e:=p) (by rw [h]; trivial) (.inl rfl) (fun b u hb q=>(Heap.get?_update_other _ _ (Ne.symm hb)).trans q) ⟨_,e⟩ ?_
 exact ⟨hz,its',n',r,e⟩
noncomputable def rSetL:V→V→V→Hp→(Hp→Prop)→Prop:=fun o i v H Q=>∃ p xs k j,o=.ref p∧i=.int k∧H p=some (.lst xs)∧ixN xs.length k=some j∧Q (upd H p (.lst (xs.set j v)))
theorem set_list:PSet X rSetL:=by
 intro pins s σ H o i v ov iv u Q I ro ri rv h
 obtain ⟨p,xs,k,j,rfl,rfl,hp,hj,q⟩:=h
 cases ro
 obtain ⟨t,rfl⟩:=ri
 obtain ⟨its,n,r,ho,hz⟩:=I.lst hp
 obtain ⟨h1,h2,h3,h4⟩:=ixN_seq hj
 have hl:=r.length
 have hn:=line63
 have I':Inv X pins σ (upd H p (.lst (xs.set j v))) { s with heap:=s.heap.update p (Obj.mapSeq (·.setIfInBounds j u)) } :=
  I.lstUpd hp ho (mapSeq_set its n j u) (r.set rv j) (by rw [List.length_set]; exact hz) s.toks
 by_cases h0:0≤k
 ·have hk:k.toNat=j:=by
   rw [seqIndex_of h0 h4] at h1
   exact Option.some.inj h1
  exact W.ki_setAt ho h0 (by omega) (by rw [List.size_toArray,← hl]; exact h4) (by rw [hk]; exact ⟨_,I',q⟩)
 ·have hk:(k+(its.toArray.size:Int)).toNat=j:=by
   rw [seqIndex_neg (by omega) h3] at h1
   rw [List.size_toArray,← hl]
   exact Option.some.inj h1
  exact W.ki_setBack ho (by omega) (by rw [List.size_toArray,← hl]; exact h3) (by omega) (by rw [hk]; exact ⟨_,I',q⟩)
theorem slice_bounds (lo hi:Option Int) (n:Nat):(sliceBounds lo hi none n).1=((HT.sIx n 0 lo:Nat):Int)∧(sliceBounds lo hi none n).2.1=((HT.sIx n n hi:Nat):Int)∧(sliceBounds lo hi none n).2.2=1:=by
 refine ⟨?_,?_,rfl⟩
 ·cases lo with
  | none=>simp [sliceBounds,HT.sIx]
  | some i =>
   simp only [sliceBounds,HT.sIx,Option.getD_none,show (1:Int)>0 by decide,if_true]
   by_cases h:i<0
   ·simp only [h,if_true] <;> omega
   ·simp only [h,if_false] <;> omega
 ·cases hi with
  | none=>simp [sliceBounds,HT.sIx]
  | some i =>
   simp only [sliceBounds,HT.sIx,Option.getD_none,show (1:Int)>0 by decide,if_true]
   by_cases h:i<0
   ·simp only [h,if_true] <;> omega
   ·simp only [h,if_false] <;> omega
theorem slicePick_cut (its:List Value) (lo hi:Option Int):slicePick its.toArray lo hi none=((its.drop (HT.sIx its.length 0 lo)).take (HT.sIx its.length its.length hi - HT.sIx its.length 0 lo)).toArray:=by
 obtain ⟨h1,h2,h3⟩:=slice_bounds lo hi its.toArray.size
 unfold slicePick
 rw [h1,h2,h3]
 simp only [sliceRange_one,pick_run,List.size_toArray] <;> rfl
noncomputable def rSlL (K:W.Frag):V→Option Int→Option Int→Hp→VK→Prop:=fun x lo hi H Q=>∃ a xs,x=.ref a∧SqL K H a xs∧∀ p,H p=none→Q (.ref p) (upd H p (.lst (cutV xs lo hi)))
theorem sl_list:SlR X (rSlL X.K):=by
 intro pins s σ H x v vl vu lo hi sl Q I rx hs pl pu h
 obtain ⟨a,xs,rfl,hx,q⟩:=h
 cases rx
 obtain ⟨its,r,ht,hz⟩:=I.list hx
 have hlen:=r.length
 refine ⟨"list",_,slot_list_getitem.lookup,ht.isList.typeIs,?_⟩
 refine wpAny_getItem_list_slice ht.isList hs pl pu .none (by simp) ?_ (by rw [List.size_toArray] <;> omega)
 rw [slicePick_cut,← hlen]
 refine ⟨.ref s.heap.objs.size,_,I.laid (t':=s.toks) (o:=.lst (cutV xs lo hi)) (fun b ob q=>Heap.get?_push_of_some _ q) (Nat.le_refl _) ?_,rfl,q _ (I.hok.fresh (Nat.le_refl _))⟩
 exact ⟨Nat.le_trans (cutV_length xs lo hi) hz,_,0,(r.drop (HT.sIx xs.length 0 lo)).take (HT.sIx xs.length xs.length hi - HT.sIx xs.length 0 lo),Heap.get?_push_size _ rfl⟩
noncomputable def flatV:V→Bool
 | .non=>true
 | .bl _=>true
 | .int _=>true
 | .str _=>true
 | _=>false
noncomputable def eqV:V→V→Bool
 | .non,.non=>true
 | .bl a,.bl b=>a == b
 | .bl a,.int b=>(if a then 1 else 0) == b
 | .int a,.bl b=>a == (if b then 1 else 0)
 | .int a,.int b=>a == b
 | .str a,.str b=>a == b
 | _,_=>false
theorem eqAt_V {A:Around}{s:Shared}{y x:V}{u v:Value} (ry:RelV y u) (rx:RelV x v) (fy:flatV y=true) (fx:flatV x=true):SeqAt.EqAt A s u v (eqV y x):=by
 cases y with
 | non =>
  cases ry
  cases x with
  | non=>cases rx; exact SeqAt.EqAt.same _
  | bl b=>cases rx; exact SeqAt.EqAt.none_bool b
  | int b=>obtain ⟨t,rfl⟩:=rx; exact SeqAt.EqAt.none_int b t
  | str b=>obtain ⟨t,rfl⟩:=rx; exact SeqAt.EqAt.none_str b t
  | _=>exact absurd (show false=true from fx) Bool.false_ne_true
 | bl a =>
  cases ry
  cases x with
  | non=>cases rx; exact SeqAt.EqAt.bool_none a
  | bl b=>cases rx; exact SeqAt.EqAt.bool_bool a b
  | int b=>obtain ⟨t,rfl⟩:=rx; exact SeqAt.EqAt.bool_int a b t
  | str b=>obtain ⟨t,rfl⟩:=rx; exact SeqAt.EqAt.bool_str a b t
  | _=>exact absurd (show false=true from fx) Bool.false_ne_true
 | int a =>
  obtain ⟨t',rfl⟩:=ry
  cases x with
  | non=>cases rx; exact SeqAt.EqAt.int_none a t'
  | bl b=>cases rx; exact SeqAt.EqAt.int_bool a t' b
  | int b=>obtain ⟨t,rfl⟩:=rx; exact SeqAt.EqAt.int_int a t' b t
  | str b=>obtain ⟨t,rfl⟩:=rx; exact SeqAt.EqAt.int_str a t' b t
  | _=>exact absurd (show false=true from fx) Bool.false_ne_true
 | str a =>
  obtain ⟨t',rfl⟩:=ry
  cases x with
  | non=>cases rx; exact SeqAt.EqAt.str_none a t'
  | bl b=>cases rx; exact SeqAt.EqAt.str_bool a t' b
  | int b=>obtain ⟨t,rfl⟩:=rx; exact SeqAt.EqAt.str_int a t' b t
  | str b=>obtain ⟨t,rfl⟩:=rx; exact SeqAt.EqAt.str_str a t' b t
  | _=>exact absurd (show false=true from fx) Bool.false_ne_true
 | _=>exact absurd (show false=true from fy) Bool.false_ne_true
noncomputable def eqU (x:V) (u:Value):Bool:=match u with
 | .none=>eqV .non x
 | .bool b=>eqV (.bl b) x
 | .int i _=>eqV (.int i) x
 | .str z _=>eqV (.str z) x
 | _=>false
theorem eqU_of {x y:V}{u:Value} (r:RelV y u) (f:flatV y=true):eqU x u=eqV y x:=by
 cases y with
 | non=>cases r; rfl
 | bl b=>cases r; rfl
 | int i=>obtain ⟨t,rfl⟩:=r; rfl
 | str z=>obtain ⟨t,rfl⟩:=r; rfl
 | _=>exact absurd (show false=true from f) Bool.false_ne_true
theorem any_eqU {x:V}:∀ {xs:List V}{us:List Value},Vals xs us→xs.all flatV=true→us.any (eqU x)=xs.any fun y=>eqV y x
 | _,_,.nil,_=>rfl
 | y::xs,u::us,.cons r t,f=>by
  rw [List.all_cons,Bool.and_eq_true] at f
  rw [List.any_cons,List.any_cons,eqU_of r f.1,any_eqU t f.2]
theorem mem_eqAt {A:Around}{s:Shared}{x:V}{v:Value} (rx:RelV x v) (fx:flatV x=true):∀ {xs:List V}{us:List Value},Vals xs us→xs.all flatV=true→∀ u∈us,SeqAt.EqAt A s u v (eqU x u)
 | _,_,.nil,_=>fun u hu=>by cases hu
 | y::xs,u::us,.cons r t,f=>fun u' hu=>by
  rw [List.all_cons,Bool.and_eq_true] at f
  rcases List.mem_cons.mp hu with rfl | hu
  ·rw [eqU_of r f.1]; exact eqAt_V r rx f.1 fx
  ·exact mem_eqAt rx fx t f.2 u' hu
noncomputable def inV (x:V) (xs:List V):Bool:=xs.any fun y=>eqV y x
noncomputable def rIn (K:W.Frag) (neg:Bool):R2:=fun x y H Q=>∃ p xs,y=.ref p∧(SqL K H p xs∨SqT K H p xs)∧flatV x=true∧xs.all flatV=true∧Q (.bl (if neg then !inV x xs else inV x xs)) H
theorem op_in_seq:OpR X (compareOp .In) (rIn X.K false):=by
 intro pins s σ H x y v u Q I rx ry h
 obtain ⟨p,xs,rfl,hq,fx,fs,q⟩:=h
 cases ry
 rcases hq with hq | hq
 ·obtain ⟨its,r,pl,hz⟩:=I.list hq
  refine SeqAt.in_listAt (eqU x) pl.isList (fun w hw=>mem_eqAt rx fx r fs w (by simpa using hw)) ⟨.bl _,H,I,rfl,?_⟩
  rw [show its.toArray.any (eqU x)=its.any (eqU x) by simp,any_eqU r fs]
  exact q
 ·obtain ⟨its,r,pl,hz⟩:=I.tuple hq
  refine SeqAt.in_tupleAt (eqU x) pl (fun w hw=>mem_eqAt rx fx r fs w (by simpa using hw)) ⟨.bl _,H,I,rfl,?_⟩
  rw [show its.toArray.any (eqU x)=its.any (eqU x) by simp,any_eqU r fs]
  exact q
theorem op_notIn_seq:OpR X (compareOp .NotIn) (rIn X.K true):=by
 intro pins s σ H x y v u Q I rx ry h
 obtain ⟨p,xs,rfl,hq,fx,fs,q⟩:=h
 cases ry
 rcases hq with hq | hq
 ·obtain ⟨its,r,pl,hz⟩:=I.list hq
  refine SeqAt.notIn_listAt (eqU x) pl.isList (fun w hw=>mem_eqAt rx fx r fs w (by simpa using hw)) ⟨.bl _,H,I,rfl,?_⟩
  rw [show its.toArray.any (eqU x)=its.any (eqU x) by simp,any_eqU r fs]
  exact q
 ·obtain ⟨its,r,pl,hz⟩:=I.tuple hq
  refine SeqAt.notIn_tupleAt (eqU x) pl (fun w hw=>mem_eqAt rx fx r fs w (by simpa using hw)) ⟨.bl _,H,I,rfl,?_⟩
  rw [show its.toArray.any (eqU x)=its.any (eqU x) by simp,any_eqU r fs]
  exact q
theorem call_len_seq:CallR X (.builtin "len") (fun xs H Q=>∃ p ys,xs=[.ref p]∧(SqL X.K H p ys∨SqT X.K H p ys)∧Q (.int ys.length) H):=by
 intro pins s σ H xs us Q I r h
 obtain ⟨p,ys,rfl,hq,q⟩:=h
 obtain ⟨u,rfl,rx⟩:=vals1 r
 cases rx
 have hn:=line63
 rcases hq with hq | hq
 ·obtain ⟨its,r',pl,hz⟩:=I.list hq
  have hlen:=r'.length
  exact Calls.call_len_list pl.isList (by simp only [List.size_toArray] <;> omega) ⟨.int ys.length,H,I.tok _,⟨s.toks+1,by rw [List.size_toArray,hlen]⟩,q⟩
 ·obtain ⟨its,r',pl,hz⟩:=I.tuple hq
  have hlen:=r'.length
  exact len_tuple pl (by simp only [List.size_toArray] <;> omega) ⟨.int ys.length,H,I.tok _,⟨s.toks+1,by rw [List.size_toArray,hlen]⟩,q⟩
theorem call_len_str:CallR X (.builtin "len") (fun xs H Q=>∃ z,xs=[.str z]∧z.length≤sizeLine∧Q (.int z.length) H):=by
 intro pins s σ H xs us Q I r h
 obtain ⟨z,rfl,hz,q⟩:=h
 obtain ⟨u,rfl,t,rfl⟩:=vals1 r
 have hn:=line63
 exact len_str (by omega) ⟨.int z.length,H,I.tok _,⟨_,rfl⟩,q⟩
theorem call_list_of:CallR X (.type "list") (fun xs H Q=>∃ p ys,xs=[.ref p]∧(SqL X.K H p ys∨SqT X.K H p ys)∧∀ l,H l=none→Q (.ref l) (upd H l (.lst ys))):=by
 intro pins s σ H xs us Q I r h
 obtain ⟨p,ys,rfl,hq,q⟩:=h
 obtain ⟨u,rfl,rx⟩:=vals1 r
 cases rx
 have fin:∀ (its:List Value),Vals ys its→ys.length≤sizeLine→∀ (h':Heap) (c':Nat),(∀ b o',s.heap.get? b=some o'→h'.get? b=some o') →
   h'.get? s.heap.objs.size=some { cls:=.type "list",dict:=none,data:=.seq its.toArray c',slots:=#[] }→EP X pins σ Q (.ref s.heap.objs.size) { s with heap:=h' }:=fun its r' hz h' c' kp e =>
  ⟨.ref s.heap.objs.size,_,I.laid (t':=s.toks) kp (Nat.le_refl _) (show ObjOk X.prog X.w _ h' _ (.lst ys) from ⟨hz,its,c',r',e⟩),rfl,q _ (I.hok.fresh (Nat.le_refl _))⟩
 rcases hq with hq | hq
 ·obtain ⟨its,r',pl,hz⟩:=I.list hq
  have hlen:=r'.length
  obtain ⟨o,ho,hc,n,hd⟩:=pl.isList
  exact call_list_seq p (.inl rfl) ho hc hd (fun h' c' kp e=>fin its r' hz h' c' kp e) (by simp only [List.size_toArray] <;> omega)
 ·obtain ⟨its,r',pl,hz⟩:=I.tuple hq
  have hlen:=r'.length
  obtain ⟨o,ho,hc,n,hd⟩:=pl
  exact call_list_seq p (.inr rfl) ho hc hd (fun h' c' kp e=>fin its r' hz h' c' kp e) (by simp only [List.size_toArray] <;> omega)
theorem call_tuple_of:CallR X (.type "tuple") (fun xs H Q=>∃ p ys,xs=[.ref p]∧((SqL X.K H p ys∧∀ l,H l=none→Q (.ref l) (upd H l (.tup ys)))∨(SqT X.K H p ys∧Q (.ref p) H))):=by
 intro pins s σ H xs us Q I r h
 obtain ⟨p,ys,rfl,h⟩:=h
 obtain ⟨u,rfl,rx⟩:=vals1 r
 cases rx
 rcases h with ⟨hq,q⟩ | ⟨hq,q⟩
 ·obtain ⟨its,r',pl,hz⟩:=I.list hq
  have hlen:=r'.length
  refine call_tuple_list pl.isList (fun h' kp=>?_) (by simp only [List.size_toArray] <;> omega)
  have I1:Inv X pins σ H { s with heap:=h' }:=I.kept (t':=s.toks) kp
  have I2:Inv X pins σ (upd H h'.objs.size (.tup ys)) { s with heap:=h'.push { cls:=.type "tuple",data:=.seq its.toArray } } :=
   I1.laid (t':=s.toks) (fun b o e=>Heap.get?_push_of_some _ e) (Nat.le_refl _) (show ObjOk X.prog X.w _ _ _ (.tup ys) from ⟨hz,its,r',IsTup.new _ _⟩)
  exact ⟨.ref h'.objs.size,_,I2,rfl,q _ (I1.hok.fresh (Nat.le_refl _))⟩
 ·obtain ⟨its,r',pl,hz⟩:=I.tuple hq
  exact call_tuple_same pl ⟨.ref p,H,I,rfl,q⟩
def tyV (K:W.Frag) (T:String) (x:V) (H:Hp):Prop:=match x with
 | .str _=>T = "str"
 | .int _=>T = "int"
 | .ref p=>(T = "list"∧∃ xs,SqL K H p xs)∨(T = "tuple"∧∃ o,K.lookup p=some o∧o.cls=.type "tuple"∧o.dict=none) ∨
   (T = "dict"∧((∃ kvs,H p=some (.dK kvs))∨∃ kvs,H p=some (.dT kvs)))∨(T = "set"∧∃ S n,H p=some (.set S n))
 | _=>False
theorem tyV_is {pins:List (Addr × Obj)}{σ:St}{H:Hp}{s:Shared}{T:String}{x:V}{v:Value} (I:Inv X pins σ H s) (r:RelV x v) (ty:tyV X.K T x H) :
  s.TypeIs v T∧∀ a,v=.ref a→∃ ob,s.heap.get? a=some ob∧ob.dict=none:=by
 cases x with
 | str z =>
  obtain ⟨t,rfl⟩:=r
  cases (show T = "str" from ty)
  exact ⟨typeIs_str s z t,fun _ e=>nomatch e⟩
 | int i =>
  obtain ⟨t,rfl⟩:=r
  cases (show T = "int" from ty)
  exact ⟨typeIs_int s i t,fun _ e=>nomatch e⟩
 | ref p =>
  cases r
  rcases ty with ⟨rfl,xs,hq⟩ | ⟨rfl,o,hk,hc,hd⟩ | ⟨rfl,hk⟩ | ⟨rfl,S,n,hk⟩
  ·obtain ⟨its,_,pl,_⟩:=I.list hq
   refine ⟨pl.isList.typeIs,fun a e=>?_⟩
   cases e
   obtain ⟨o,n,e,c,hd,_⟩:=pl
   exact ⟨o,e,hd⟩
  ·refine ⟨⟨o,I.kIn p o hk,hc⟩,fun a e=>?_⟩
   cases e
   exact ⟨o,I.kIn _ o hk,hd⟩
  ·have z:∃ o,s.heap.get? p=some o∧o.ExactDict:=by
    rcases hk with ⟨kvs,hk⟩ | ⟨kvs,hk⟩
    ·obtain ⟨_,_,_,_,o,_,_,e,ex,_⟩:=I.hok p _ hk
     exact ⟨o,e,ex⟩
    ·obtain ⟨_,_,_,_,o,_,_,e,ex,_⟩:=I.hok p _ hk
     exact ⟨o,e,ex⟩
   obtain ⟨o,e,ex⟩:=z
   refine ⟨⟨o,e,ex.1⟩,fun a e2=>?_⟩
   cases e2
   exact ⟨o,e,ex.2.1⟩
  ·obtain ⟨o,_,_,_,e,ex,_⟩:=I.hok p _ hk
   refine ⟨⟨o,e,ex.1⟩,fun a e2=>?_⟩
   cases e2
   exact ⟨o,e,ex.2.1⟩
 | _=>exact False.elim ty
noncomputable def tBM (K:W.Frag) (T:String) (r:V→List V→Hp→VK→Prop) (to:TE) (t:TA):TE:=fun σ H Q=>to σ H fun x H1=>tyV K T x H1∧t σ H1 fun xs H2=>r x xs H2 Q
variable {o e:Expr}{es:List Expr}{to:TE}{t:TA}{name:Str}{apos cpos:Pos}{T id:String}{r:V→List V→Hp→VK→Prop}
theorem pe_bm (pa:PlainAttrs T) (slot:Slot T name id) (hty:typeOf (.builtin id)=pure (.type "method_descriptor")) (hm:MtR X id r) (ho:PE X o to) (ha:PA X (e::es) t)
  (hbase:attributeBase o name X.env (eval o X.env)=eval o X.env:=by rfl)
  (hfew:((backTo cpos (starEach (e::es) X.env)).all (fun x=>!x.1)&&(backToKw cpos (keywordEach [] X.env)).all (fun x=>x.1.isSome)
   && decide ((e::es).length+([]:List Keyword).length+(if ([]:List Keyword).isEmpty then 0 else 1)<30))=true:=by rfl)
  (hline:(apos.endLine == cpos.line)=true:=by rfl) (hs:starEach (e::es) X.env=(false,eval e X.env)::starEach es X.env:=by rfl) (hplain:(backTo cpos (starEach es X.env)).any (·.1)=false:=by rfl) :
  PE X (.Call (.Attribute o name apos) (e::es) [] cpos) (tBM X.K T r to t):=by
 intro pins s σ H Q I h
 refine wpAny_Call_method_late hbase hfew hline rfl (thn (ho pins s σ H _ I h) fun v s1 ⟨x,H1,I1,r1,ty,q1⟩=>?_)
 obtain ⟨h1,h2⟩:=tyV_is I1 r1 ty
 refine ⟨T,id,pa,slot,hty,h1,h2,?_⟩
 have hA:=ha cpos pins s1 σ H1 _ I1 q1
 rw [hs] at hA ⊢
 refine Calls.callWith_builtin (by show (false||(backTo cpos (starEach es X.env)).any (·.1))=false; rw [hplain] <;> rfl) (Calls.evalArgs_plain ?_)
 exact thn hA fun us s2 ⟨vs,H2,I2,r2,q2⟩=>hm pins s2 σ H2 x vs v us Q I2 r1 r2 q2
end
def MtM (X:Cx) (id:String) (r:V→List V→Hp→VK→Prop):Prop :=
 ∀ (pins:List (Addr × Obj)) (s:Shared) (σ:St) (H:Hp) (x:V) (xs:List V) (v:Value) (us:List Value) (Q:VK),Inv X pins σ H s→RelV x v→Vals xs us→r x xs H Q →
  wpAny (model X.prog X.w) X.A (call (.builtin id) (v::us)) (EP X pins σ Q) X.xe s
theorem Vals.cinv {x:V}{xs:List V}:∀ {us:List Value},Vals (x::xs) us→∃ u r,us=u::r∧RelV x u∧Vals xs r
 | _,.cons r t=>⟨_,_,rfl,r,t⟩
theorem Vals.ninv:∀ {us:List Value},Vals [] us→us=[]
 | _,.nil=>rfl
theorem Vals.one {x:V}{us:List Value} (h:Vals [x] us):∃ u,us=[u]∧RelV x u:=by
 obtain ⟨u,r,rfl,a,t⟩:=h.cinv
 rw [t.ninv]
 exact ⟨u,rfl,a⟩
theorem Vals.two {x y:V}{us:List Value} (h:Vals [x,y] us):∃ u v,us=[u,v]∧RelV x u∧RelV y v:=by
 obtain ⟨u,r,rfl,a,t⟩:=h.cinv
 obtain ⟨v,rfl,b⟩:=t.one
 exact ⟨u,v,rfl,a,b⟩
section
variable {X:Cx}{pins:List (Addr × Obj)}{σ:St}{H:Hp}{s:Shared}{l b:Addr}{xs ys zs:List V}
theorem Inv.lset {its its':List Value}{n:Nat}{f:Array Value→Array Value}{t':Nat} (I:Inv X pins σ H s) (hH:H l=some (.lst xs))
  (e:s.heap.get? l=some { cls:=.type "list",data:=.seq its.toArray n }) (hf:f its.toArray=its'.toArray) (hv:Vals ys its') (hz:ys.length≤sizeLine) :
  Inv X pins σ (upd H l (.lst ys)) { s with heap:=s.heap.update l (Obj.mapSeq f),toks:=t' }:=by
 have q:=PySem.IsL.update e f
 rw [hf] at q
 refine I.write (x:=l) (e:=l) (by rw [hH]; exact trivial) (.inl rfl) (fun b' u hb hu=>(Heap.get?_update_other s.heap (Obj.mapSeq f) (Ne.symm hb)).trans hu) ⟨_,q⟩ ?_
 exact ⟨hz,its',_,hv,q⟩
theorem Inv.lnew {its:List Value}{t':Nat} (I:Inv X pins σ H s) (hv:Vals ys its) (hz:ys.length≤sizeLine) :
  Inv X pins σ (upd H s.heap.objs.size (.lst ys)) { s with heap:=s.heap.push { cls:=.type "list",data:=.seq its.toArray },toks:=t' } :=
 I.laid (fun _ _ q=>Heap.get?_push_of_some _ q) (Nat.le_refl _) ⟨hz,its,0,hv,Heap.get?_push_size _ rfl⟩
theorem Inv.fresh (I:Inv X pins σ H s):H s.heap.objs.size=none:=I.hok.fresh (Nat.le_refl _)
theorem Inv.lstM (I:Inv X pins σ H s) (hH:H l=some (.lst xs)):xs.length≤sizeLine∧∃ (its:List Value) (n:Nat),Vals xs its∧xs.length=its.length∧s.heap.get? l=some { cls:=.type "list",data:=.seq its.toArray n }:=by
 obtain ⟨z,its,n,r,e⟩:=I.hok l _ hH
 exact ⟨z,its,n,r,r.length,e⟩
end
section
variable {X:Cx}
noncomputable def rAppend:V→List V→Hp→VK→Prop:=fun x vs H Q=>∃ l xs y,x=.ref l∧vs=[y]∧H l=some (.lst xs)∧xs.length<sizeLine∧Q .non (upd H l (.lst (xs++[y])))
theorem mt_append:MtM X "list.append" rAppend:=by
 intro pins s σ H x vs v us Q I rx rv h
 obtain ⟨l,xs,y,rfl,rfl,hH,hz,q⟩:=h
 cases rx
 obtain ⟨u,rfl,ru⟩:=rv.one
 obtain ⟨z,its,n,r,hl,e⟩:=I.lstM hH
 refine call_meets F.slot_list_append ⟨_,e,rfl⟩ F.entry_list_append (F.args_list_append_2 _ _) (PySem.list_append l its.toArray n u (by rw [List.size_toArray]; omega)) ⟨e,?_⟩
 refine ⟨.non,_,I.lset (its':=its++[u]) hH e (by simp) (r.append (.cons ru .nil)) ?_,rfl,q⟩
 rw [List.length_append,List.length_singleton]
 omega
noncomputable def rCat:R2:=fun x y H Q=>∃ l b xs zs,x=.ref l∧y=.ref b∧H l=some (.lst xs)∧H b=some (.lst zs)∧xs.length+zs.length≤sizeLine∧∀ p,H p=none→Q (.ref p) (upd H p (.lst (xs++zs)))
theorem op_cat:OpR X (binaryOp .Add) rCat:=by
 intro pins s σ H x y v u Q I rx ry h
 obtain ⟨l,b,xs,zs,rfl,rfl,hH,hB,hz,q⟩:=h
 cases rx
 cases ry
 obtain ⟨z,its,n,r,hl,e⟩:=I.lstM hH
 obtain ⟨z2,its2,n2,r2,hl2,e2⟩:=I.lstM hB
 refine PySem.P.add_list e e2 ?_ (by rw [List.size_toArray,List.size_toArray]; omega)
 have ea:its.toArray++its2.toArray=(its++its2).toArray:=by simp
 rw [ea]
 exact ⟨.ref _,_,I.lnew (t':=s.toks) (r.append r2) (by rw [List.length_append]; omega),rfl,q _ I.fresh⟩
end
end L2
namespace Att
open PySem PySem.W PySem.Calls PyProof.Rows
theorem ints_of_wellAll {P:Params}{h:Heap}:∀ (ns:List Int) (vs:List Value),WellAll P h vs (ns.map WData.int)→IntsAre vs ns:=by
 intro ns
 induction ns with
 | nil =>
  intro vs w
  rw [List.map_nil] at w
  cases w
  exact .nil
 | cons n ns ih =>
  intro vs w
  rw [List.map_cons] at w
  cases w with
  | cons a b =>
   cases a
   exact .cons _ _ (ih _ b)
theorem script_of {l:OpenLaw}{n:Nat} (hn:l.most=some n) {P:Params}{h:Heap}{args:List WData}{vals:List Value}
  (hpre:l.row.toRowW.claim.pre args=true) (hwl:WellAll P h vals args) :
  ∃ a vs ns,vals=[Value.ref a]∧args=[WData.list (ns.map WData.int)]∧h.get? a=some { cls:=.type "list",data:=.seq vs.toArray }∧IntsAre vs ns∧ns.length≤n:=by
 have hsh:WShape.hasAll [] args [.list .int]=true:=(pre_splitW hpre).1
 have hc:l.pre.holds [] { args:=args }=true:=(pre_splitW hpre).2
 obtain ⟨d,r,rfl,h1,h2⟩:=hasAllW_cons hsh
 obtain rfl:=hasAllW_nil h2
 obtain ⟨xs,rfl,h3⟩:=hasW_list h1
 obtain ⟨ns,rfl⟩:=items_int h3
 have hlen:ns.length≤n:=by
  unfold OpenLaw.pre at hc
  have h4:(WTm.not (.lt (.lit (.int (n:Int))) (.len (.arg 0)))).holds [] { args:=[.list (ns.map .int)] }=true:=by
   have h4:=(holds_andW hc).1
   rw [hn] at h4
   exact h4
  have h5:=condW_of h4 (w_not (w_lt w_lit (w_len_list (w_arg rfl))))
  rw [List.length_map] at h5
  refine Nat.le_of_not_lt fun q=>?_
  have q':(n:Int)<((ns.length:Nat):Int):=by omega
  first
   | (rw [decide_eq_true q'] at h5; exact absurd h5 (by decide))
   | (simp at h5; omega)
 cases hwl with
 | cons w1 w2 =>
  cases w2
  cases w1 with
  | list ho hall=>exact ⟨_,_,ns,rfl,rfl,ho,ints_of_wellAll ns _ hall,hlen⟩
theorem post_true (l:OpenLaw) (args:List WData):l.row.toRowW.claim.post args (.bool true) args=true :=
 postW_of (r:=l.row.toRowW) (X:=(true == true))
  (show WShape.has [] (.bool true) .bool=true by first | rfl | decide | simp [WShape.has,WShape.arms,WShape.armsAll])
  (show (WTm.eq .res (.lit (.bool true))).value [] { args:=args,res:=some (.bool true),after:=args }=some (.bool (true == true)) from w_eq_bool (w_res rfl) w_lit) rfl
theorem attach_call {l:OpenLaw}{n:Nat}{q:Program}{loose:List Str}{XP:(Str→Option Value)→Heap→Prop}{YP:World→Heap→Prop}{d:DefRec}
  (hn:l.most=some n) (hdf:d.params.defaults=[])
  (call:∀ (w:World) (s₀ s₁:Shared) (mg mb:Str→Option Value) (fa:Addr) (o:Obj) (pm cd doc:Value) (a:Addr) (vs:List Value) (ns:List Int),
   Ground q loose [] XP w s₀ mg mb s₁.heap→YP w s₁.heap →
   s₁.heap.get? fa=some o→o.data=.func (docDef d.name d.params d.body d.scope pm cd doc)→s₁.heap.CodeRec cd d.name→mg d.name=some (.ref fa) →
   s₁.heap.get? a=some { cls:=.type "list",data:=.seq vs.toArray }→IntsAre vs ns→ns.length≤n→s₁.gens=#[] →
   codeAny (model l.prog w) callerA (.call (.ref fa) ⟨[.ref a],[]⟩) (fun r s'=>r=.ok (.ret (.bool true))∧OldK s₁.heap s'.heap∧s'.os=s₁.os∧AllBare s'.gens) s₁) :
  WalkO q loose XP YP l.row.toRowW d [] (fun f vs=>PySem.call f vs):=by
 intro w s₀ s₁ mg mb G Y fa o pm cd doc dV kV ho hd hcd hD hmg hg args vals as hpre hlay hrd hwl hlo
 obtain rfl:dV=.none:=Dflts.none hD hdf
 obtain rfl:kV=.none:=Dflts.noKw hD
 obtain ⟨a,vs,ns,rfl,rfl,hobj,hints,hlen⟩:=script_of hn hpre hwl
 refine enter_call (codeAny_mono (call w s₀ s₁ mg mb fa o pm cd doc a vs ns G Y ho (fd_plain hd) hcd hmg hobj hints hlen hg) fun r s' hq=>?_)
 obtain ⟨rfl,h2,h3,h4⟩:=hq
 exact ⟨.inl ⟨.bool true,.bool true,[],rfl,fun _=>rfl,.bool true,post_true l _,fun _=>⟨List.Pairwise.nil,fun _ hm=>(nomatch hm)⟩⟩,h2,h3,h4⟩
end Att
namespace L2
open PySem PySem.Spec PyProof.Rows
theorem vals_ints:∀ {vs:List Value}{ns:List Int},IntsAre vs ns→Vals (ns.map V.int) vs
 | _,_,.nil=>.nil
 | _,_,.cons n t h=>.cons ⟨t,rfl⟩ (vals_ints h)
def Only (H:Hp):Prop:=∀ b,H b=none∨∃ o xs,H b=some (.frz o (.lst xs))
theorem law_call {P:Program}{w:World}{K:W.Frag}{mg mb:Str→Option Value}{CX:CXT}{k:Nat}{fa a:Addr}{fd:FuncData}{x:Str}{sp:Sp}{s₁:Shared}{vs:List Value}{ns:List Int}
  (KX:K.In s₁.heap) (hns:s₁.heap.Ns mainGlobals mg) (hb:s₁.heap.Ns builtinsNs mb) (hbb:∀ x:Str,x ≠ "__name__"→mb x=bootBuiltins x) (hlim:s₁.heap.NoLimit) (hg:s₁.gens=#[])
  (ha:s₁.heap.get? a=some { cls:=.type "list",data:=.seq vs.toArray }) (hi:IntsAre vs ns) (hl:ns.length≤sizeLine) (hr:Room k callerA)
  (F:∀ base:Heap,K.In base→base.Ns mainGlobals mg→FnOk P w K mg base CX k fa fd [x] sp) (hbind:∀ (s:Shared) (u:Value),BindsTo s fd ⟨[u],[]⟩ [(x,u)])
  (hsp:∀ H:Hp,Only H→SqL K H a (ns.map V.int)→sp [.ref a] H (fun v _=>v=.bl true) fun _ _ _=>False)
  (hCX:∀ H e s',CX [] H s₁ (fun _ _ _=>False) e s'→False) :
  codeAny (model P w) callerA (.call (.ref fa) ⟨[.ref a],[]⟩) (fun r s'=>r=.ok (.ret (.bool true))∧OldK s₁.heap s'.heap∧s'.os=s₁.os∧AllBare s'.gens) s₁:=by
 have rv:=vals_ints hi
 have lenV:=hi.length
 have core:∀ H:Hp,Only H→SqL K H a (ns.map V.int)→HOk P w H s₁.heap→(∀ b,H b≠none→b=a)→(H a≠none→K.lookup a=none) →
   codeAny (model P w) callerA (.call (.ref fa) ⟨[.ref a],[]⟩) (fun r s'=>r=.ok (.ret (.bool true))∧OldK s₁.heap s'.heap∧s'.os=s₁.os∧AllBare s'.gens) s₁:=by
  intro H hO hS hok hA hK
  have base_of:∀ {b:Addr}{o:Obj},s₁.heap.get? b=some o→H b=none→(hidT s₁.heap H).get? b=some o:=fun e n=>hidT_get e n
  have noA:∀ {b:Addr}{o:Obj}{es:Array DictEntry}{ep:Nat},s₁.heap.get? b=some o→o.data=.dict es ep→H b=none:=fun {b o es ep} e d=>by
   cases q:H b with
   | none=>rfl
   | some u =>
    have e':b=a:=hA b (by rw [q]; simp)
    subst e'
    rw [ha] at e; cases e
    have d':Data.seq vs.toArray _=Data.dict es ep:=d
    cases d'
  have nsK:∀ {b:Addr}{m:Str→Option Value},s₁.heap.Ns b m→(hidT s₁.heap H).Ns b m:=fun {b m} ⟨o,es,ep,e,d,r⟩=>⟨o,es,ep,base_of e (noA e d),d,r⟩
  have hKb:K.In (hidT s₁.heap H):=fun b o e=>base_of (KX b o e) (by
   cases q:H b with
   | none=>rfl
   | some u =>
    have e':b=a:=hA b (by rw [q]; simp)
    subst e'
    rw [hK (by rw [q]; simp)] at e; cases e)
  have hM:Mod K mg (hidT s₁.heap H):=⟨hKb,nsK hns,⟨mb,nsK hb,hbb⟩,let ⟨mc,h1,h2⟩:=hlim; ⟨mc,nsK h1,h2⟩⟩
  have e0:Env0 P w K mg (hidT s₁.heap H) callerA [] s₁ H:=⟨rfl,hM,fun b o e=>of_hidT e,Nat.le_of_eq (hidT_size _ _),trivial,fun b hb=>absurd (show b∈([]:List Addr) from hb) (by simp),hok,.of_eq hg⟩
  refine codeAny_mono ((F _ hKb (nsK hns)).run callerA [] s₁ H ⟨[.ref a],[]⟩ [.ref a] [.ref a] _ _ hr e0 (hbind s₁ (.ref a)) (.cons rfl .nil) (hsp H hO hS)) fun r s' h=>?_
  cases r with
  | error e=>exact (hCX H e s' h).elim
  | ok fl =>
   cases fl with
   | next=>exact False.elim h
   | brk=>exact False.elim h
   | cont=>exact False.elim h
   | ret u =>
    obtain ⟨v,H',os,bare,un,hok',r',q⟩:=h
    have q':v=.bl true:=q
    subst q'
    obtain rfl:u=Value.bool true:=r'
    refine ⟨rfl,OldK.of_keep fun b o e=>?_,os,bare⟩
    cases q:H b with
    | none=>exact un.keep b o e q (by intro z; exact absurd (show b∈([]:List Addr) from z) (by simp)) (by simp)
    | some u =>
     rcases hO b with z | ⟨ob,xs,z⟩
     ·rw [q] at z; cases z
     ·have z2:=un.frzs b ob _ z
      obtain ⟨e1,_⟩:=hok b _ z
      obtain ⟨e2,_⟩:=hok' b _ z2
      rw [e] at e1; cases e1
      exact e2
 cases hk:K.lookup a with
 | some o =>
  have e:=KX a o hk
  rw [ha] at e
  cases e
  refine core (fun _=>none) (fun _=>.inl rfl) (.inr ⟨_,vs.toArray,_,hk,rfl,rfl,rfl,by rw [List.size_toArray,lenV]; exact hl,by simpa using rv⟩) (fun b u z=>by have z':(none:Option HO)=some u:=z; cases z') (fun b z=>absurd rfl z) fun z=>absurd rfl z
 | none =>
  refine core (fun b=>if b=a then some (.frz { cls:=.type "list",data:=.seq vs.toArray } (.lst (ns.map V.int))) else none) (fun b=>?_) (.inl (.inr ⟨{ cls:=.type "list",data:=.seq vs.toArray },if_pos rfl⟩)) (fun b u z=>?_) (fun b z=>?_) fun _=>hk
  ·by_cases hb:b=a
   ·exact .inr ⟨_,_,if_pos hb⟩
   ·exact .inl (if_neg hb)
  ·by_cases hb:b=a
   ·have z':=(if_pos hb).symm.trans z
    cases z'
    subst hb
    exact ⟨ha,by rw [List.length_map]; exact hl,vs,_,rv,ha⟩
   ·have z':=(if_neg hb).symm.trans z
    cases z'
  ·by_cases hb:b=a
   ·exact hb
   ·exact absurd (if_neg hb) z
theorem walk_of {l:W.OpenLaw}{n k:Nat}{q:Program}{loose:List Str}{XP:(Str→Option Value)→Heap→Prop}{YP:World→Heap→Prop}{d:DefRec}{K:Params→W.Frag}{CX:World→CXT}{sp:World→Sp}{x:Str}
  (hn:l.most=some n) (hn2:n≤sizeLine) (hdf:d.params.defaults=[]) (hr:Room k callerA)
  (hY:∀ (w:World) (h:Heap),YP w h→(K w.params).In h)
  (F:∀ (w:World) (mg:Str→Option Value) (fa:Addr) (h:Heap),(K w.params).In h→h.Ns mainGlobals mg→mg d.name=some (.ref fa) →
   ∃ fd:FuncData,(∀ (s:Shared) (u:Value),BindsTo s fd ⟨[u],[]⟩ [(x,u)]) ∧
    ∀ base:Heap,(K w.params).In base→base.Ns mainGlobals mg→FnOk l.prog w (K w.params) mg base (CX w) k fa fd [x] (sp w))
  (hsp:∀ (w:World) (H:Hp) (a:Addr) (ns:List Int),ns.length≤n→Only H→SqL (K w.params) H a (ns.map V.int)→sp w [.ref a] H (fun v _=>v=.bl true) fun _ _ _=>False)
  (hCX:∀ (w:World) (H:Hp) (s:Shared) (e:Value) (s':Shared),CX w [] H s (fun _ _ _=>False) e s'→False) :
  W.WalkO q loose XP YP l.row.toRowW d [] (fun f vs=>PySem.call f vs):=by
 refine Att.attach_call hn hdf fun w s₀ s₁ mg mb fa o pm cd doc a vs ns G Y ho hd hcd hmg hobj hints hlen hg=>?_
 have KX:=hY w _ Y
 obtain ⟨fd,hb,hF⟩:=F w mg fa _ KX G.T.g hmg
 exact law_call KX G.T.g G.T.b G.T.builtins G.T.nolimit hg hobj hints (Nat.le_trans hlen hn2) hr hF hb (fun H hO hS=>hsp w H a ns hlen hO hS) fun H e s'=>hCX w H s₁ e s'
noncomputable def defArgs (s:Stmt):Arguments:=match s with
 | .FunctionDef _ a _ _ _ _ _ _ _ _=>a
 | _=>{ posonlyargs:=[],args:=[],vararg:=none,kwonlyargs:=[],kw_defaults:=[],kwarg:=none,defaults:=[] }
noncomputable def defBody (s:Stmt):List Stmt:=match s with
 | .FunctionDef _ _ b _ _ _ _ _ _ _=>b
 | _=>[]
noncomputable def defScope (s:Stmt):Scope:=match s with
 | .FunctionDef _ _ _ _ _ _ sc _ _ _=>sc
 | _=>{ kind:=.function,names:=[],isGenerator:=false,isCoroutine:=false }
noncomputable abbrev CX0:CXT:=fun _ _ _ _ _ _=>False
noncomputable abbrev E0:XK:=fun _ _ _=>False
theorem pass0 {X:Cx}:Passes CX0 X E0:=fun _ _ _ _ _ _ _ h=>h.elim
structure Fun (K:W.Frag) (x qual:Str) (st:Stmt) (f:Addr) (fd:FuncData):Prop where
 ex:∃ (oc:Value) (od:Option Addr) (kV doc pm:Value) (an:Option Addr) (cdv ct:Value) (osl:Array (Option Value)),
  fd=W.fnOf x qual (defArgs st) (defBody st) (defScope st) .none kV doc pm an cdv ct∧K.lookup f=some ⟨oc,od,.func fd,osl⟩∧W.codeIn K cdv qual=true
 kp:W.keepIn K (.ref f)=true
section
variable {P:Program}{w:World}{K:W.Frag}{mg:Str→Option Value}{base:Heap}
theorem Fun.ok {x qual:Str}{st:Stmt}{f:Addr}{fd:FuncData}{N ps:List Str}{k:Nat}{sp:Sp} (F:Fun K x qual st f fd) (S:FnScope N ps (defScope st)) (len:∀ vs H Q E,sp vs H Q E→vs.length=ps.length)
  (hbody:∀ (cdv:Value) (A:Around) (outer:List Env) (s:Shared) (H:Hp) (vs:List V) (Q:VK) (E:XK),Room k (A.deeper (envOfC qual (defScope st) s.heap.objs.size f cdv))→sp vs H Q E →
   ∃ t,PSs (cxOf CX0 P w K mg base N qual (defScope st) f cdv A outer s H E).nox (defBody st) t∧t { nx:=fun _ H'=>Q .non H',rt:=Q } (start N vs) H):FnOk P w K mg base CX0 (k+1) f fd ps sp:=by
 obtain ⟨oc,od,kV,doc,pm,an,cdv,ct,osl,rfl,lk,hcd⟩:=F.ex
 refine fn_of lk hcd S len fun A outer s H vs Q E hr hsp=>?_
 obtain ⟨t,h,q⟩:=hbody cdv A outer s H vs Q E hr hsp
 exact ⟨t,h.nox,q⟩
theorem Fun.binds {x qual:Str}{st:Stmt}{f:Addr}{fd:FuncData}{ps:List Str} (F:Fun K x qual st f fd)
  (h:∀ (kV doc pm:Value) (an:Option Addr) (cdv ct:Value) (us:List Value),us.length=ps.length→bindArgs (W.fnOf x qual (defArgs st) (defBody st) (defScope st) .none kV doc pm an cdv ct) ⟨us,[]⟩=pure (ps.zip us)):Binds K fd ps []:=by
 obtain ⟨oc,od,kV,doc,pm,an,cdv,ct,osl,rfl,lk,hcd⟩:=F.ex
 exact .all (h kV doc pm an cdv ct)
theorem fun_mk {x qual:Str}{st:Stmt}{f:Addr}{oc:Value}{od an:Option Addr}{osl:Array (Option Value)}{kV doc pm cdv ct:Value} (l:K.lookup f=some ⟨oc,od,.func (W.fnOf x qual (defArgs st) (defBody st) (defScope st) .none kV doc pm an cdv ct),osl⟩)
  (c:W.codeIn K cdv qual=true) (k:W.keepIn K (.ref f)=true):Fun K x qual st f (W.fnOf x qual (defArgs st) (defBody st) (defScope st) .none kV doc pm an cdv ct):=⟨⟨oc,od,kV,doc,pm,an,cdv,ct,osl,rfl,l,c⟩,k⟩
end
theorem hu_of {A:Around}{k:Nat} (hr:Room k A):A.units+1<cLine:=Nat.lt_of_le_of_lt (Nat.add_le_add_left (by decide:1≤64) _) hr.units
theorem small1000 {n:Nat} (h:n≤1000):n<sizeLine:=Nat.lt_of_le_of_lt h (by decide)
def Same (H H':Hp):Prop:=∀ b o,H b=some o→H' b=some o
theorem Same.refl (H:Hp):Same H H:=fun _ _ h=>h
section
variable {κ:Type} [DecidableEq κ]
noncomputable def valV (kvs:List (κ × V)) (k:κ):Option V:=(kvs.find? fun kv=>decide (kv.1=k)).map (·.2)
noncomputable def putK (kvs:List (κ × V)) (k:κ) (v:V):List (κ × V) :=
 if (kvs.any fun kv=>decide (kv.1=k))=true then kvs.map (fun kv=>if kv.1=k then (kv.1,v) else kv) else kvs++[(k,v)]
theorem valV_pos {p:κ × V}{r:List (κ × V)}{k:κ} (e:p.1=k):valV (p::r) k=some p.2:=by simp [valV,List.find?_cons,e]
theorem valV_neg {p:κ × V}{r:List (κ × V)}{k:κ} (e:¬ p.1=k):valV (p::r) k=valV r k:=by simp [valV,List.find?_cons,e]
theorem valV_any (k:κ):∀ kvs:List (κ × V),(kvs.any fun kv=>decide (kv.1=k))=(valV kvs k).isSome
 | []=>rfl
 | p::r=>by
  rw [List.any_cons]
  by_cases e:p.1=k
  ·simp only [valV_pos e,decide_eq_true e,Bool.true_or,Option.isSome_some]
  ·rw [valV_neg e,decide_eq_false e,Bool.false_or]; exact valV_any k r
theorem length_putK (kvs:List (κ × V)) (k:κ) (v:V):(putK kvs k v).length≤kvs.length+1:=by
 unfold putK
 split
 ·rw [List.length_map]; omega
 ·rw [List.length_append,List.length_cons,List.length_nil]; omega
theorem RelO.isSome_eq {o:Option V}{u:Option Value} (r:RelO o u):o.isSome=u.isSome:=by
 cases o with
 | none=>cases u with
  | none=>rfl
  | some _=>exact (show False from r).elim
 | some _=>cases u with
  | none=>exact (show False from r).elim
  | some _=>rfl
theorem KV.val {kvs:List (κ × V)}{vs:List (κ × Value)} (r:KV kvs vs) (k:κ):RelO (valV kvs k) (valueAt vs k):=by
 unfold KV at r
 induction r with
 | nil=>exact True.intro
 | @cons p q ps qs h t ih =>
  obtain ⟨h1,h2⟩:=h
  by_cases e:p.1=k
  ·have e':q.1=k:=h1.symm.trans e
   have b:valueAt (q::qs) k=some q.2:=by simp [valueAt,List.find?_cons,e']
   rw [valV_pos e,b]; exact h2
  ·have e':¬ q.1=k:=fun z=>e (h1.trans z)
   have b:valueAt (q::qs) k=valueAt qs k:=by simp [valueAt,List.find?_cons,e']
   rw [valV_neg e,b]; exact ih
theorem KV.any {kvs:List (κ × V)}{vs:List (κ × Value)} (r:KV kvs vs) (k:κ):(kvs.any fun kv=>decide (kv.1=k))=vs.any fun kv=>decide (kv.1=k):=by
 unfold KV at r
 induction r with
 | nil=>rfl
 | cons h t ih=>rw [List.any_cons,List.any_cons,ih,h.1]
theorem KV.repl {kvs:List (κ × V)}{vs:List (κ × Value)} (r:KV kvs vs) (k:κ) {y:V}{u:Value} (ry:RelV y u) :
  KV (kvs.map fun kv=>if kv.1=k then (kv.1,y) else kv) (vs.map fun kv=>if kv.1=k then (kv.1,u) else kv):=by
 unfold KV at r ⊢
 induction r with
 | nil=>exact .nil
 | @cons p q ps qs h t ih =>
  rw [List.map_cons,List.map_cons]
  refine .cons ?_ ih
  obtain ⟨h1,h2⟩:=h
  by_cases e:p.1=k
  ·rw [if_pos e,if_pos (h1.symm.trans e)]; exact ⟨h1,ry⟩
  ·rw [if_neg e,if_neg (fun z=>e (h1.trans z))]; exact ⟨h1,h2⟩
theorem KV.put {kvs:List (κ × V)}{vs:List (κ × Value)} (r:KV kvs vs) (k:κ) {y:V}{u:Value} (ry:RelV y u):KV (putK kvs k y) (stored vs k u):=by
 unfold putK stored
 rw [r.any k]
 by_cases e:(vs.any fun kv=>decide (kv.1=k))=true
 ·rw [if_pos e,if_pos e]; exact r.repl k ry
 ·rw [if_neg e,if_neg e]; exact Paired.snoc r ⟨rfl,ry⟩
theorem KV.length {kvs:List (κ × V)}{vs:List (κ × Value)} (r:KV kvs vs):kvs.length=vs.length:=Paired.length r
end
theorem kV_is {P:Program}{w:World}{k:Key}{u:Value} (r:RelV (kV k) u):(mixKind P w).is k u=true:=by
 cases k with
 | inl i=>obtain ⟨t,e⟩:=(show ∃ t,u=Value.int i t from r); subst e; exact mixKind_int P w i t
 | inr x=>obtain ⟨t,e⟩:=(show ∃ t,u=Value.str x t from r); subst e; exact mixKind_str P w x t
theorem items_are {P:Program}{w:World}:∀ {ks:List Key}{us:List Value},Vals (ks.map kV) us→ItemsAre (mixKind P w) ks us
 | [],_,r=>by rw [List.map_nil] at r; cases r; exact .nil
 | k::ks,_,r=>by
  rw [List.map_cons] at r
  cases r with
  | cons h t=>exact .cons (kV_is h) (items_are t)
noncomputable abbrev KT (H:Hp):List (List Key × V)→List (List Key × Addr × Value)→Prop:=Paired fun p q=>p.1=q.1∧H q.2.1=some (.tup (p.1.map kV))∧RelV p.2 q.2.2
theorem KT.val {H:Hp}{kvs:List (List Key × V)}{xs:List (List Key × Addr × Value)} (r:KT H kvs xs) (k:List Key):RelO (valV kvs k) ((atKey xs k).map (·.2)):=by
 induction r with
 | nil=>exact True.intro
 | @cons p q ps qs h t ih =>
  obtain ⟨h1,_,h2⟩:=h
  by_cases e:p.1=k
  ·have e':q.1=k:=h1.symm.trans e
   have b:atKey (q::qs) k=some q.2:=by simp [atKey,List.find?_cons,e']
   rw [valV_pos e,b]; exact h2
  ·have e':¬ q.1=k:=fun z=>e (h1.trans z)
   have b:atKey (q::qs) k=atKey qs k:=by simp [atKey,List.find?_cons,e']
   rw [valV_neg e,b]; exact ih
theorem KT.repl {H:Hp}{kvs:List (List Key × V)}{xs:List (List Key × Addr × Value)} (r:KT H kvs xs) (k:List Key) {y:V}{u:Value} (ry:RelV y u) :
  KT H (kvs.map fun kv=>if kv.1=k then (kv.1,y) else kv) (xs.map (putAt k u)):=by
 induction r with
 | nil=>exact .nil
 | @cons p q ps qs h t ih =>
  rw [List.map_cons,List.map_cons]
  refine .cons ?_ ih
  obtain ⟨h1,h2,h3⟩:=h
  unfold putAt
  by_cases e:p.1=k
  ·rw [if_pos e,if_pos (h1.symm.trans e)]; exact ⟨h1,h2,ry⟩
  ·rw [if_neg e,if_neg (fun z=>e (h1.trans z))]; exact ⟨h1,h2,h3⟩
theorem KT.put {H:Hp}{kvs:List (List Key × V)}{xs:List (List Key × Addr × Value)} (r:KT H kvs xs) (k:List Key) {b:Addr}{y:V}{u:Value} (hb:H b=some (.tup (k.map kV))) (ry:RelV y u) :
  KT H (putK kvs k y) (storedH xs k b u):=by
 have e:(kvs.any fun kv=>decide (kv.1=k))=(atKey xs k).isSome:=by
  rw [valV_any,(r.val k).isSome_eq,Option.isSome_map]
 unfold putK storedH
 rw [e]
 by_cases q:(atKey xs k).isSome=true
 ·rw [if_pos q,if_pos q]; exact r.repl k ry
 ·rw [if_neg q,if_neg q]; exact Paired.snoc r ⟨rfl,hb,ry⟩
theorem KT.keeps {H H':Hp}{kvs:List (List Key × V)}{xs:List (List Key × Addr × Value)} (r:KT H kvs xs) (ht:∀ b ys,H b=some (.tup ys)→H' b=some (.tup ys)):KT H' kvs xs :=
 Paired.mapP r fun _ _ z=>⟨z.1,ht _ _ z.2.1,z.2.2⟩
section
variable {P:Program}{w:World}{H:Hp}{h:Heap}{a:Addr}
theorem rd_of {u:HO} (ok:HOk P w H h) (e:Rd H a u):ObjOk P w H h a u:=e.ok ok
theorem dk_rd {kvs:List (Key × V)} (ok:HOk P w H h) (e:Rd H a (.dK kvs)):kvs.length≤sizeLine∧(a == sysModules)=false∧∃ vs,KV kvs vs∧h.DictOf (mixKind P w) a vs :=
 show ObjOk P w H h a (.dK kvs) from rd_of ok e
theorem dk_of {kvs:List (Key × V)} (ok:HOk P w H h) (e:H a=some (.dK kvs)):kvs.length≤sizeLine∧(a == sysModules)=false∧∃ vs,KV kvs vs∧h.DictOf (mixKind P w) a vs:=dk_rd ok (.inl e)
theorem key_of {ks:List Key} (ok:HOk P w H h) (e:H a=some (.tup (ks.map kV))):(tupleKind (mixKind P w)).is h ks a:=by
 obtain ⟨_,its,r,o,h1,h2,n,h3⟩:=(show ObjOk P w H h a (.tup (ks.map kV)) from ok a _ e)
 exact ⟨o,its.toArray,n,h1,h2,h3,by simpa using items_are r⟩
theorem dt_rd {kvs:List (List Key × V)} (ok:HOk P w H h) (e:Rd H a (.dT kvs)):kvs.length≤sizeLine∧(a == sysModules)=false ∧
  ∃ xs,KT H kvs xs∧h.DictOfH (tupleKind (mixKind P w)) a xs:=by
 obtain ⟨z,y,xs,r,o,es,ep,h1,h2,h3,h4,h5⟩:=(show ObjOk P w H h a (.dT kvs) from rd_of ok e)
 refine ⟨z,y,xs,r,o,es,ep,h1,h2,h3,h4,fun x hx=>?_,h5⟩
 have all:∀ {l:List (List Key × V)}{m:List (List Key × Addr × Value)},KT H l m→∀ x∈m,(tupleKind (mixKind P w)).is h x.1 x.2.1:=by
  intro l m q
  induction q with
  | nil=>intro x hx; exact nomatch hx
  | @cons p q ps qs hq t ih =>
   intro x hx
   rcases List.mem_cons.mp hx with e | hx
   ·subst e
    exact key_of ok (by rw [← hq.1]; exact hq.2.1)
   ·exact ih x hx
 exact all r x hx
theorem dt_of {kvs:List (List Key × V)} (ok:HOk P w H h) (e:H a=some (.dT kvs)):kvs.length≤sizeLine∧(a == sysModules)=false ∧
  ∃ xs,KT H kvs xs∧h.DictOfH (tupleKind (mixKind P w)) a xs:=dt_rd ok (.inl e)
end
def DGet (H:Hp) (a:Addr) (y:V) (r:Option V):Prop :=
 (∃ kvs k,Rd H a (.dK kvs)∧y=kV k∧r=valV kvs k)∨∃ kvs k b,Rd H a (.dT kvs)∧y=.ref b∧H b=some (.tup (k.map kV))∧r=valV kvs k
def DPut (H:Hp) (a:Addr) (y v:V) (H':Hp):Prop :=
 (∃ kvs k,H a=some (.dK kvs)∧y=kV k∧kvs.length<sizeLine∧H'=upd H a (.dK (putK kvs k v))) ∨
 ∃ kvs k b,H a=some (.dT kvs)∧y=.ref b∧H b=some (.tup (k.map kV))∧kvs.length<sizeLine∧H'=upd H a (.dT (putK kvs k v))
theorem DGet.k {H:Hp}{a:Addr}{kvs:List (Key × V)}{k:Key} (e:H a=some (.dK kvs)):DGet H a (kV k) (valV kvs k):=.inl ⟨kvs,k,.inl e,rfl,rfl⟩
theorem DGet.t {H:Hp}{a b:Addr}{kvs:List (List Key × V)}{k:List Key} (e:H a=some (.dT kvs)) (eb:H b=some (.tup (k.map kV))):DGet H a (.ref b) (valV kvs k):=.inr ⟨kvs,k,b,.inl e,rfl,eb,rfl⟩
theorem DPut.k {H:Hp}{a:Addr}{kvs:List (Key × V)}{k:Key}{v:V} (e:H a=some (.dK kvs)) (hl:kvs.length<sizeLine):DPut H a (kV k) v (upd H a (.dK (putK kvs k v))):=.inl ⟨kvs,k,e,rfl,hl,rfl⟩
section
variable {X:Cx}{pins:List (Addr × Obj)}{σ:St}{H:Hp}{s:Shared}{a:Addr}{y v:V}{u r:Value}{o:Option V}{A:Around}{E:Value→Shared→Prop}
theorem Inv.big (I:Inv X pins σ H s):sysModules<s.heap.objs.size:=by
 have h:mainGlobals<s.heap.objs.size:=(I.mod.glob.keeps I.bk).lt
 exact Nat.lt_trans (by decide) h
theorem d_getItem {Q:Value→Shared→Prop} (hu:A.units+1<cLine) (I:Inv X pins σ H s) (g:DGet H a y (some v)) (ry:RelV y u) (h:∀ w' s',Inv X pins σ H s'→RelV v w'→Q w' s') :
  wpAny (model X.prog X.w) A (getItem (.ref a) u) Q E s:=by
 rcases g with ⟨kvs,k,e,ey,l⟩ | ⟨kvs,k,b,e,ey,eb,l⟩
 ·subst ey
  obtain ⟨z,hd,vs,rel,dd⟩:=dk_rd I.hok e
  obtain ⟨w',hw,rw'⟩:=RelO.some_of (v:=v) (o:=valueAt vs k) (by rw [l]; exact rel.val k)
  exact wpAny_getItem_of (kV_is ry) dd.mapOf hw (h w' _ (I.tok _) rw')
 ·subst ey
  cases (show u=Value.ref b from ry)
  obtain ⟨z,hd,xs,rel,dd⟩:=dt_rd I.hok e
  obtain ⟨w',hw,rw'⟩:=RelO.some_of (v:=v) (o:=(atKey xs k).map (·.2)) (by rw [l]; exact rel.val k)
  obtain ⟨p,hp,hp2⟩:=Option.map_eq_some_iff.mp hw
  refine wpAny_getItem_heap (tupleKind_room_in1 hu) (key_of I.hok eb) dd hp ?_
  rw [hp2]
  exact h w' _ (I.tok _) rw'
theorem d_in {Q:Value→Shared→Prop} (hu:A.units+1<cLine) (I:Inv X pins σ H s) (g:DGet H a y o) (ry:RelV y u) (h:∀ s',Inv X pins σ H s'→Q (.bool o.isSome) s') :
  wpAny (model X.prog X.w) A (compareOp .In u (.ref a)) Q E s:=by
 rcases g with ⟨kvs,k,e,ey,l⟩ | ⟨kvs,k,b,e,ey,eb,l⟩
 ·subst ey
  obtain ⟨z,hd,vs,rel,dd⟩:=dk_rd I.hok e
  refine wpAny_in_of (kV_is ry) hd dd.mapOf ?_
  rw [← (rel.val k).isSome_eq,← l]
  exact h _ (I.tok _)
 ·subst ey
  cases (show u=Value.ref b from ry)
  obtain ⟨z,hd,xs,rel,dd⟩:=dt_rd I.hok e
  refine wpAny_in_heap (tupleKind_room_in1 hu) (key_of I.hok eb) hd dd ?_
  have q:=(rel.val k).isSome_eq
  rw [Option.isSome_map] at q
  rw [← q,← l]
  exact h _ (I.tok _)
theorem d_notIn {Q:Value→Shared→Prop} (hu:A.units+1<cLine) (I:Inv X pins σ H s) (g:DGet H a y o) (ry:RelV y u) (h:∀ s',Inv X pins σ H s'→Q (.bool (!o.isSome)) s') :
  wpAny (model X.prog X.w) A (compareOp .NotIn u (.ref a)) Q E s:=by
 rcases g with ⟨kvs,k,e,ey,l⟩ | ⟨kvs,k,b,e,ey,eb,l⟩
 ·subst ey
  obtain ⟨z,hd,vs,rel,dd⟩:=dk_rd I.hok e
  refine wpAny_notIn_of (kV_is ry) hd dd.mapOf ?_
  rw [← (rel.val k).isSome_eq,← l]
  exact h _ (I.tok _)
 ·subst ey
  cases (show u=Value.ref b from ry)
  obtain ⟨z,hd,xs,rel,dd⟩:=dt_rd I.hok e
  refine wpAny_notIn_heap (tupleKind_room_in1 hu) (key_of I.hok eb) hd dd ?_
  have q:=(rel.val k).isSome_eq
  rw [Option.isSome_map] at q
  rw [← q,← l]
  exact h _ (I.tok _)
theorem d_write {h':Heap}{t':Nat}{ob:HO} (I:Inv X pins σ H s) (mu:Mut (H a)) (hs:Heap.SameBut a s.heap h') (he:∃ q,h'.get? a=some q) (new:ObjOk X.prog X.w (upd H a ob) h' a ob) :
  Inv X pins σ (upd H a ob) { s with heap:=h',toks:=t' } :=
 I.write (x:=a) (e:=a) mu (.inl rfl) (fun b q hb z=>(hs.2 b hb).trans z) he new
theorem dk_new {P:Program}{w:World}{H':Hp}{h':Heap}{kvs:List (Key × V)}{vs:List (Key × Value)} (z:kvs.length≤sizeLine) (hd:(a == sysModules)=false) (rel:KV kvs vs) (dd:h'.DictOf (mixKind P w) a vs) :
  ObjOk P w H' h' a (.dK kvs):=⟨z,hd,vs,rel,dd⟩
theorem d_setItem {H':Hp}{Q:Unit→Shared→Prop} (hu:A.units+1<cLine) (I:Inv X pins σ H s) (g:DPut H a y v H') (ry:RelV y u) (rv:RelV v r) (h:∀ s',Inv X pins σ H' s'→Q () s') :
  wpAny (model X.prog X.w) A (setItem (.ref a) u r) Q E s:=by
 rcases g with ⟨kvs,k,e,ey,l,eH⟩ | ⟨kvs,k,b,e,ey,eb,l,eH⟩
 ·subst ey eH
  obtain ⟨z,hd,vs,rel,dd⟩:=dk_of I.hok e
  have hz:vs.length≤sizeLine:=by rw [← rel.length]; exact z
  have hl:(putK kvs k v).length≤sizeLine:=by have:=length_putK kvs k v; omega
  refine wpAny_setItem_pairs (hsz:=hz) (kV_is ry) dd fun h' dd' hs=>h _ ?_
  have he:∃ q,h'.get? a=some q:=let ⟨q,_,_,hq,_⟩:=dd'; ⟨q,hq⟩
  exact d_write I (by rw [e]; exact True.intro) hs he (dk_new hl hd (rel.put k rv) dd')
 ·subst ey eH
  cases (show u=Value.ref b from ry)
  obtain ⟨z,hd,xs,rel,dd⟩:=dt_of I.hok e
  have hz:xs.length≤sizeLine:=by rw [← Paired.length rel]; exact z
  have hl:(putK kvs k v).length≤sizeLine:=by have:=length_putK kvs k v; omega
  refine wpAny_setItem_heap (hsz:=hz) (tupleKind_room_in1 hu) (key_of I.hok eb) dd fun h' dd' hs=>h _ ?_
  obtain ⟨q,es,ep,hq,h2,h3,h4,_,h5⟩:=dd'
  refine d_write I (by rw [e]; exact True.intro) hs ⟨q,hq⟩ ⟨hl,hd,_,(rel.put k eb rv).keeps fun c ys ec=>?_,q,es,ep,hq,h2,h3,h4,h5⟩
  rw [upd_ne (ne_of ec e (fun z=>nomatch z))]
  exact ec
end
theorem dict_typeIs {X:Cx}{pins:List (Addr × Obj)}{σ:St}{H:Hp}{s:Shared}{a:Addr}{y:V}{o:Option V} (I:Inv X pins σ H s) (g:DGet H a y o):s.TypeIs (.ref a) "dict":=by
 rcases g with ⟨kvs,k,e,_,_⟩ | ⟨kvs,k,b,e,_,_,_⟩
 ·obtain ⟨_,_,vs,_,dd⟩:=dk_rd I.hok e
  exact dd.typeIs
 ·obtain ⟨_,_,xs,_,dd⟩:=dt_rd I.hok e
  exact dd.typeIs
theorem dk_empty {P:Program}{w:World}{H:Hp} (h:Heap) (hb:sysModules<h.objs.size):ObjOk P w H (h.push { cls:=.type "dict",data:=.dict #[] }) h.objs.size (.dK []) :=
 ⟨Nat.zero_le _,beq_eq_false_iff_ne.mpr (Ne.symm (Nat.ne_of_lt hb)),[],.nil,Heap.DictOf.new h⟩
noncomputable def tDNewK:TE:=fun _ H Q=>∀ p,H p=none→Q (.ref p) (upd H p (.dK []))
section
variable {X:Cx}{pos:Pos}
theorem pe_dnewK:PE X (.Dict [] [] pos) tDNewK:=fun pins s σ H Q I h =>
 wpAny_Dict_empty ⟨.ref s.heap.objs.size,_,I.laid (a:=s.heap.objs.size) (o:=.dK []) (t':=s.toks) (fun _ _ q=>Heap.get?_push_of_some _ q) (Nat.le_refl _) (dk_empty s.heap I.big),rfl,h _ (I.hok.fresh (Nat.le_refl _))⟩
end
noncomputable def tPairs:List (TE × TE)→St→Hp→(List (V × V)→Hp→Prop)→Prop
 | [],_,H,Q=>Q [] H
 | (tk,tv)::r,σ,H,Q=>tk σ H fun x H1=>tv σ H1 fun y H2=>tPairs r σ H2 fun ps H3=>Q ((x,y)::ps) H3
noncomputable abbrev VV:List (V × V)→List (Value × Value)→Prop:=Paired fun p q=>RelV p.1 q.1∧RelV p.2 q.2
def PPs (X:Cx) (pos:Pos) (keys:List (Option Expr)) (values:List Expr) (trs:List (TE × TE)):Prop :=
 ∀ (pins:List (Addr × Obj)) (s:Shared) (σ:St) (H:Hp) (Q:List (V × V)→Hp→Prop),Inv X pins σ H s→tPairs trs σ H Q →
  wpAny (model X.prog X.w) X.A (evalPairs (pairTrees keys values X.env pos)) (fun vs s'=>∃ ps H',Inv X pins σ H' s'∧VV ps vs∧Q ps H') X.xe s
theorem pps_nil {X:Cx}{pos:Pos}:PPs X pos [] [] []:=fun pins s σ H Q I h=>pairTrees_nil_walk ⟨[],H,I,.nil,h⟩
theorem pps_cons {X:Cx}{pos:Pos}{k v:Expr}{ks:List (Option Expr)}{vs:List Expr}{tk tv:TE}{trs:List (TE × TE)} (hk:PE X k tk) (hv:PE X v tv) (hr:PPs X pos ks vs trs) :
  PPs X pos (some k::ks) (v::vs) ((tk,tv)::trs):=fun pins s σ H Q I h =>
 pairTrees_cons_walk (thn (hk pins s σ H _ I h) fun u s1 ⟨x,H1,I1,rx,q1⟩=>thn (hv pins s1 σ H1 _ I1 q1) fun w2 s2 ⟨y,H2,I2,ry,q2⟩ =>
  thn (hr pins s2 σ H2 _ I2 q2) fun ws s3 ⟨ps,H3,I3,rel,q3⟩=>⟨(x,y)::ps,H3,I3,.cons ⟨rx,ry⟩ rel,q3⟩)
noncomputable def mergeK (kvs more:List (Key × V)):List (Key × V):=more.foldl (fun acc kv=>putK acc kv.1 kv.2) kvs
theorem KV.merge:∀ {more:List (Key × V)}{rs:List (Key × Value)}{kvs:List (Key × V)}{vs:List (Key × Value)},KV more rs→KV kvs vs→KV (mergeK kvs more) (merged vs rs):=by
 intro more rs kvs vs r
 unfold KV at r
 induction r generalizing kvs vs with
 | nil=>intro q; exact q
 | @cons p q ps qs h t ih =>
  intro r0
  have e:KV (putK kvs p.1 p.2) (stored vs q.1 q.2):=by
   have:=r0.put p.1 h.2
   rw [← h.1]; exact this
  exact ih e
theorem length_mergeK:∀ (more kvs:List (Key × V)),(mergeK kvs more).length≤kvs.length+more.length
 | [],kvs=>by show kvs.length≤kvs.length+0; omega
 | p::r,kvs=>by
  have h1:=length_mergeK r (putK kvs p.1 p.2)
  have h2:=length_putK kvs p.1 p.2
  show (mergeK (putK kvs p.1 p.2) r).length≤_
  rw [List.length_cons]; omega
theorem carries_of {P:Program}{w:World}:∀ {kvs:List (Key × V)}{ws:List (Value × Value)},VV (kvs.map fun kv=>(kV kv.1,kv.2)) ws→∃ rs,Carries (mixKind P w) ws rs∧KV kvs rs
 | [],_,r=>by rw [List.map_nil] at r; cases r; exact ⟨[],True.intro,.nil⟩
 | p::kvs,_,r=>by
  rw [List.map_cons] at r
  cases r with
  | @cons a b as bs h t =>
   obtain ⟨rs,c,q⟩:=carries_of (P:=P) (w:=w) t
   obtain ⟨b1,b2⟩:=b
   exact ⟨(p.1,b2)::rs,⟨kV_is h.1,rfl,c⟩,.cons ⟨rfl,h.2⟩ q⟩
noncomputable def tDisp (trs:List (TE × TE)):TE:=fun σ H Q=>∀ p,H p=none→tPairs trs σ (upd H p (.dK [])) fun ps H2=>H2 p=some (.dK [])∧∃ kvs:List (Key × V),ps=kvs.map (fun kv=>(kV kv.1,kv.2))∧kvs.length≤15∧Q (.ref p) (upd H2 p (.dK (mergeK [] kvs)))
theorem pe_disp {X:Cx}{pos:Pos}{keys:List (Option Expr)}{values:List Expr}{trs:List (TE × TE)} (h:PPs X pos keys values trs) (hall:keys.all (·.isSome)=true) (hl:keys.length=values.length) (h0:keys≠[])
  (h15:keys.length≤15):PE X (.Dict keys values pos) (tDisp trs):=by
 intro pins s σ H Q I q
 have hn:=I.hok.fresh (Nat.le_refl s.heap.objs.size)
 have I1:=I.laid (a:=s.heap.objs.size) (o:=.dK []) (h':=s.heap.push { cls:=.type "dict",data:=.dict #[] }) (t':=s.toks) (fun _ _ q=>Heap.get?_push_of_some _ q) (Nat.le_refl _) (dk_empty s.heap I.big)
 refine wpAny_Dict_walk (knd:=mixKind X.prog X.w) hall hl h0 h15 (thn (h pins _ σ _ _ I1 (q _ hn)) fun ws s2 ⟨ps,H2,I2,rel,e,kvs,ep,lk,q2⟩=>?_)
 subst ep
 obtain ⟨rs,c,rk⟩:=carries_of (P:=X.prog) (w:=X.w) rel
 obtain ⟨z,hd,vs0,r0,dd⟩:=dk_of I2.hok e
 cases r0
 refine ⟨rs,c,dd,fun h' dd' hs=>⟨.ref s.heap.objs.size,_,?_,rfl,q2⟩⟩
 have hz:(mergeK [] kvs).length≤sizeLine:=by
  have h1:=length_mergeK kvs []
  rw [List.length_nil] at h1
  rw [sizeLine_eq]; omega
 have he:∃ q,h'.get? s.heap.objs.size=some q:=let ⟨q,_,_,hq,_⟩:=dd'; ⟨q,hq⟩
 exact d_write I2 (by rw [e]; exact True.intro) hs he (dk_new hz hd (rk.merge .nil) dd')
def WeakS (st st2:St):Prop:=st.length=st2.length∧∀ (i:Nat) v,st[i]?=some (some v)→st2[i]?=some (some v)
noncomputable def cxComp (X:Cx) (scope:Scope) (N:List Str) (cl:List (Str × Addr)) (s:Shared) (H:Hp) (C:Addr) (ex:List Addr):Cx where
 prog:=X.prog
 w:=X.w
 K:=X.K
 mg:=X.mg
 base:=X.base
 A:=X.A
 N:=N
 s₀:=s
 H₀:=H
 env:=compEnvC scope cl C X.env
 outer:=X.stack
 stack:=X.stack
 ex:=ex
 fn:=fun x=>decide ((x,NameKind.cell)∈scope.names)
 calm:=X.calm
 pn:=[]
 xe:=fun _ _=>False
noncomputable def clOf (env:Env):List (Str × NameKind)→List (Str × Addr)→List (Str × Addr)
 | [],acc=>acc
 | (n,k)::r,acc=>if k == .free then (match env.cells.lookup n with | some c=>clOf env r ((n,c)::acc) | none=>clOf env r acc) else clOf env r acc
theorem clOf_sub {env:Env}:∀ (ns:List (Str × NameKind)) (acc:List (Str × Addr)),(∀ x c,acc.lookup x=some c→env.cells.lookup x=some c)→∀ x c,(clOf env ns acc).lookup x=some c→env.cells.lookup x=some c
 | [],_,h=>h
 | (n,k)::r,acc,h=>by
  unfold clOf
  split
  ·split
   ·rename_i c hc
    refine clOf_sub r _ fun x d e=>?_
    rw [List.lookup_cons] at e
    cases hx:x == n with
    | true =>
     rw [hx] at e
     have:x=n:=by simpa using hx
     subst this
     cases e
     exact hc
    | false =>
     rw [hx] at e
     exact h x d e
   ·exact clOf_sub r _ h
  ·exact clOf_sub r _ h
theorem clOf_has {env:Env}:∀ (ns:List (Str × NameKind)) (acc:List (Str × Addr)) (x:Str),((∃ c,acc.lookup x=some c)∨((x,NameKind.free)∈ns∧∃ c,env.cells.lookup x=some c))→∃ c,(clOf env ns acc).lookup x=some c
 | [],acc,x,h=>by
  rcases h with h | ⟨h,_⟩
  ·exact h
  ·cases h
 | (n,k)::r,acc,x,h=>by
  unfold clOf
  split
  ·rename_i hk
   split
   ·rename_i c hc
    refine clOf_has r _ x ?_
    by_cases hx:x=n
    ·subst hx
     exact .inl ⟨c,by rw [List.lookup_cons]; simp⟩
    ·have hb:(x == n)=false:=by simpa using hx
     rcases h with ⟨d,h⟩ | ⟨h,d⟩
     ·exact .inl ⟨d,by rw [List.lookup_cons,hb]; exact h⟩
     ·rcases List.mem_cons.mp h with h | h
      ·cases h; exact absurd rfl hx
      ·exact .inr ⟨h,d⟩
   ·rename_i hc
    refine clOf_has r _ x ?_
    rcases h with h | ⟨h,d,hd⟩
    ·exact .inl h
    ·rcases List.mem_cons.mp h with h | h
     ·cases h
      rw [hc] at hd; cases hd
     ·exact .inr ⟨h,d,hd⟩
  ·rename_i hk
   refine clOf_has r _ x ?_
   rcases h with h | ⟨h,d⟩
   ·exact .inl h
   ·rcases List.mem_cons.mp h with h | h
    ·cases h
     exact absurd rfl hk
    ·exact .inr ⟨h,d⟩
theorem cellOf_ok {env:Env}{x:Str}{c:Addr} (h:env.cells.lookup x=some c):cellOf env x=pure c:=by
 unfold cellOf
 rw [h]
theorem closure_ok {env:Env}:∀ (ns:List (Str × NameKind)) (acc:List (Str × Addr)),(∀ x,(x,NameKind.free)∈ns→∃ c,env.cells.lookup x=some c) →
  (forIn ns acc fun (x:Str × NameKind) (r:List (Str × Addr))=>(match x with
   | (name,kind)=>if kind == NameKind.free then (do let c ← cellOf env name; pure (ForInStep.yield ((name,c)::r))) else pure (ForInStep.yield r):Sem (ForInStep (List (Str × Addr)))))=pure (clOf env ns acc)
 | [],acc,_=>rfl
 | (n,k)::r,acc,h=>by
  rw [List.forIn_cons]
  unfold clOf
  have hr:∀ x,(x,NameKind.free)∈r→∃ c,env.cells.lookup x=some c:=fun x hx=>h x (List.mem_cons_of_mem _ hx)
  by_cases hk:k=.free
  ·subst hk
   obtain ⟨c,hc⟩:=h n (List.mem_cons_self ..)
   dsimp only
   rw [hc,cellOf_ok hc]
   simp only [beq_self_eq_true,if_true,pure_bind]
   exact closure_ok r _ hr
  ·have hb:(k == NameKind.free)=false:=by simpa using hk
   simp only [hb,Bool.false_eq_true,if_false,pure_bind]
   exact closure_ok r _ hr
theorem closureFor_ok {scope:Scope}{env:Env} (h:∀ x,(x,NameKind.free)∈scope.names→∃ c,env.cells.lookup x=some c):closureFor scope env=pure (clOf env scope.names []):=by
 unfold closureFor
 have q:=closure_ok (env:=env) scope.names [] h
 simp only [bind_pure]
 refine Eq.trans ?_ q
 congr 1
theorem mem_of_look {ns:List (Str × NameKind)}{x:Str}{k:NameKind} (h:ns.lookup x=some k):(x,k)∈ns:=by
 induction ns with
 | nil=>cases h
 | cons a r ih =>
  obtain ⟨n,k'⟩:=a
  rw [List.lookup_cons] at h
  cases hx:x == n with
  | true =>
   rw [hx] at h
   have e:x=n:=by simpa using hx
   subst e
   cases h
   exact List.mem_cons_self ..
  | false =>
   rw [hx] at h
   exact List.mem_cons_of_mem _ (ih h)
theorem relabel_mem {scope:Scope}{env:Env}{x:Str}{k:NameKind} (h:(relabel scope env).names.lookup x=some k) (hc:k=.cell∨k=.free):(x,NameKind.free)∈scope.names∨(x,NameKind.cell)∈scope.names:=by
 have m:=mem_of_look h
 obtain ⟨⟨n,k'⟩,hm,e⟩:=List.mem_map.mp m
 dsimp only at e
 split at e
 ·rename_i hq
  cases e
  have:k'=.free:=by
   simp only [Bool.and_eq_true,beq_iff_eq] at hq
   exact hq.1.1
  subst this
  exact .inl hm
 ·cases e
  rcases hc with rfl | rfl
  ·exact .inr hm
  ·exact .inl hm
theorem cells_look:∀ (ns:List (Str × NameKind)) (h:Heap) (acc:List (Str × Addr)) {x:Str}{c:Addr},(cellsFrom h.objs.size ns acc).lookup x=some c →
  ((x,NameKind.cell)∈ns∧h.objs.size≤c∧(pushCells h ns).IsCell c none)∨((x,NameKind.cell)∉ns∧acc.lookup x=some c)
 | [],h,acc,x,c,e=>.inr ⟨by simp,e⟩
 | (n,k)::r,h,acc,x,c,e=>by
  unfold cellsFrom at e
  unfold pushCells
  by_cases hk:(k == NameKind.cell)=true
  ·rw [if_pos hk] at e ⊢
   have hk':k=.cell:=by simpa using hk
   rw [← Heap.size_push h { cls:=.type "cell",data:=.cell none }] at e
   rcases cells_look r _ _ e with ⟨q1,q2,q3⟩ | ⟨q1,q2⟩
   ·exact .inl ⟨List.mem_cons_of_mem _ q1,by rw [Heap.size_push] at q2; omega,q3⟩
   ·rw [List.lookup_cons] at q2
    cases hx:x == n with
    | true =>
     rw [hx] at q2
     cases q2
     have:x=n:=by simpa using hx
     subst this
     subst hk'
     exact .inl ⟨List.mem_cons_self ..,Nat.le_refl _,_,pushCells_keeps _ _ _ _ (Heap.get?_push_size _ rfl),rfl⟩
    | false =>
     rw [hx] at q2
     refine .inr ⟨fun z=>?_,q2⟩
     rcases List.mem_cons.mp z with z | z
     ·cases z; simp at hx
     ·exact q1 z
  ·rw [if_neg hk] at e ⊢
   rcases cells_look r h acc e with ⟨q1,q2,q3⟩ | ⟨q1,q2⟩
   ·exact .inl ⟨List.mem_cons_of_mem _ q1,q2,q3⟩
   ·refine .inr ⟨fun z=>?_,q2⟩
    rcases List.mem_cons.mp z with z | z
    ·cases z; exact hk rfl
    ·exact q1 z
theorem cells_inj:∀ (ns:List (Str × NameKind)) (n:Nat) (acc:List (Str × Addr)),(∀ x c,acc.lookup x=some c→c<n)→(∀ x y c,acc.lookup x=some c→acc.lookup y=some c→x=y) →
  ∀ x y c,(cellsFrom n ns acc).lookup x=some c→(cellsFrom n ns acc).lookup y=some c→x=y
 | [],n,acc,hb,hi=>hi
 | (m,k)::r,n,acc,hb,hi=>by
  unfold cellsFrom
  split
  ·refine cells_inj r (n+1) _ (fun x c e=>?_) fun x y c e1 e2=>?_
   ·rw [List.lookup_cons] at e
    cases hx:x == m with
    | true=>rw [hx] at e; cases e; exact Nat.lt_succ_self _
    | false=>rw [hx] at e; exact Nat.lt_succ_of_lt (hb x c e)
   ·rw [List.lookup_cons] at e1 e2
    cases hx:x == m with
    | true =>
     rw [hx] at e1
     cases e1
     cases hy:y == m with
     | true=>rw [show x=m by simpa using hx,show y=m by simpa using hy]
     | false=>rw [hy] at e2; exact absurd (hb y _ e2) (Nat.lt_irrefl _)
    | false =>
     rw [hx] at e1
     cases hy:y == m with
     | true=>rw [hy] at e2; cases e2; exact absurd (hb x _ e1) (Nat.lt_irrefl _)
     | false=>rw [hy] at e2; exact hi x y c e1 e2
  ·exact cells_inj r n acc hb hi
theorem cells_some:∀ (ns:List (Str × NameKind)) (n:Nat) (acc:List (Str × Addr)) {x:Str},((x,NameKind.cell)∈ns∨∃ c,acc.lookup x=some c)→∃ c,(cellsFrom n ns acc).lookup x=some c
 | [],n,acc,x,h=>by
  rcases h with h | h
  ·cases h
  ·exact h
 | (m,k)::r,n,acc,x,h=>by
  unfold cellsFrom
  split
  ·refine cells_some r _ _ ?_
   by_cases hx:x=m
   ·subst hx
    exact .inr ⟨n,by rw [List.lookup_cons]; simp⟩
   ·have hb:(x == m)=false:=by simpa using hx
    rcases h with h | ⟨c,h⟩
    ·rcases List.mem_cons.mp h with h | h
     ·cases h; exact absurd rfl hx
     ·exact .inl h
    ·exact .inr ⟨c,by rw [List.lookup_cons,hb]; exact h⟩
  ·rename_i hk
   refine cells_some r _ _ ?_
   rcases h with h | h
   ·rcases List.mem_cons.mp h with h | h
    ·cases h; exact absurd rfl hk
    ·exact .inl h
   ·exact .inr h
theorem wpAny_blockEnv {M:Model}{A:Around}{E:Value→Shared→Prop}{s:Shared}{scope:Scope}{globals:Addr}{closure:List (Str × Addr)}{qual:Str}{outer:Env}{Q:Env→Shared→Prop}
  (hQ:Q (newEnv scope s.heap.objs.size globals (cellsFrom (s.heap.push { cls:=.type "dict",data:=.dict #[] }).objs.size scope.names closure) qual none .none (some outer) builtinsNs) { s with heap:=pushCells (s.heap.push { cls:=.type "dict",data:=.dict #[] }) scope.names }) :
  wpAny M A (newFunctionEnv scope globals closure [] qual none .none (some outer)) Q E s:=by
 simp only [newFunctionEnv,Option.isSome_some,if_true]
 refine wpAny_bind (wpAny_alloc ?_)
 refine wpAny_bind (wpAny_layCells _ (fun name kind cells=>by cases hkc:kind == NameKind.cell <;> simp [hkc]) _ _ _ _ ?_)
 rw [List.forIn_nil]
 exact wpAny_bind (wpAny_pure (wpAny_pure hQ))
section
variable {X:Cx}{pins:List (Addr × Obj)}{σ:St}{H:Hp}{s:Shared}{scope:Scope}{N:List Str}{C:Addr}{ex:List Addr}
structure CompH (X:Cx) (scope:Scope) (N:List Str) (k:Nat) (js:List Nat):Prop where
 calm:X.calm=true
 kind:scope.kind=.function
 cell:∀ x,(x,NameKind.cell)∈scope.names→scope.names.lookup x=some .cell
 free:∀ x,(x,NameKind.free)∈scope.names→(X.env.kindOf x=some .cell∨X.env.kindOf x=some .free)
 names:∀ x∈scope.names,x.2=.local→scope.names.lookup x.1=some .local
 len:N.length=k+js.length
 js:∀ i j,js[i]?=some j→∃ x,N[k+i]?=some x∧X.N[j]?=some x∧scope.names.lookup x=some .free∧Vis X.env.scope x
theorem clSub {env:Env}{ns:List (Str × NameKind)}{x:Str}{c:Addr} (h:(clOf env ns []).lookup x=some c):env.cells.lookup x=some c:=clOf_sub _ _ (fun _ _ z=>by cases z) x c h
theorem Inv.compOk (I:Inv X pins σ H s) (hk:scope.kind=.function) (hf:∀ x,(x,NameKind.free)∈scope.names→∃ c,X.env.cells.lookup x=some c) {h:Heap} (hh:h.objs.size=C+1) (hC:s.heap.objs.size≤C) (hex:∀ b∈ex,FpOk X pins H b) (hxs:∀ b∈ex,b<s.heap.objs.size) :
  (cxComp X scope N (cellsFrom h.objs.size scope.names (clOf X.env scope.names [])) s H C ex).Ok where
 mod:=I.ok.mod
 kind:=hk
 glob:=I.ok.glob
 blt:=I.ok.blt
 above:=hC
 inj:=cells_inj _ _ _ (fun x c e=>by
  obtain ⟨v,q⟩:=I.cell x c (clSub e)
  rw [hh]; exact Nat.lt_succ_of_lt (Nat.lt_of_lt_of_le q.lt hC)) fun x y c e1 e2=>I.ok.inj x y c (clSub e1) (clSub e2)
 has:=fun x h=>by
  have m:=relabel_mem (scope:=scope) (env:=X.env) (x:=x) (k:=.cell)
  have m2:=relabel_mem (scope:=scope) (env:=X.env) (x:=x) (k:=.free)
  have q:(x,NameKind.free)∈scope.names∨(x,NameKind.cell)∈scope.names:=by
   rcases h with h | h
   ·exact m h (.inl rfl)
   ·exact m2 h (.inr rfl)
  refine cells_some _ _ _ ?_
  rcases q with q | q
  ·exact .inr (clOf_has _ _ x (.inr ⟨q,hf x q⟩))
  ·exact .inl q
 cab:=fun x c h e=>by
  rcases cells_look _ _ _ e with ⟨_,q,_⟩ | ⟨q,_⟩
  ·show s.heap.objs.size≤c; omega
  ·exact absurd (of_decide_eq_true h) q
 hd:=I.ok.hd
 frames:=I.ok.frames
 stk:=.inl rfl
 exf:=fun b hb=>⟨fun z=>by
   have z':b=C:=z
   exact Nat.lt_irrefl _ (Nat.lt_of_lt_of_le (hxs b hb) (by rw [z']; exact hC)),fun x c e=>by
   rcases cells_look _ _ _ e with ⟨_,q,_⟩ | ⟨_,q⟩
   ·exact Nat.ne_of_gt (Nat.lt_of_lt_of_le (hxs b hb) (Nat.le_trans hC (Nat.le_of_lt (Nat.lt_of_lt_of_le (by rw [hh]; exact Nat.lt_succ_self C) q))))
   ·exact (hex b hb).2.2.2.2.1 x c (clSub q)⟩
 bs:=I.bs
 bsz:=Nat.le_trans I.ok.bsz I.sz
 noex:=fun b o e hb=>by
  rcases (hex b hb).2.2.2.1 with z | z
  ·exact I.ok.noex b o e z
  ·exact Nat.lt_irrefl _ (Nat.lt_of_lt_of_le (Heap.lt_size e) (Nat.le_trans I.ok.bsz z))
 exfs:=fun b hb z=>by
  rcases List.mem_cons.mp (I.stkSub b z) with q | q
  ·exact (hex b hb).2.1 q
  ·exact (hex b hb).2.2.1 q
 funs:=I.stack
 frf:=I.stkFree
theorem compLoop_go {prog:Program}{w:World}{A:Around}{R:Result→Shared→Prop}{elt target iter:Expr}{ifs:List Expr}{scope:Scope}{pos:Pos}{it acc:Value}{env:Env}{s:Shared} (J:Nat→Shared→Prop)
  (turn:∀ n s,J n s→wpAny (model prog w) A (pyNext it) (fun r s1=>match r with
   | none=>R (.ok .next) s1
   | some v=>wpAny (model prog w) A (letOwnedTupleGo target it v) (fun _ s1'=>wpAny (model prog w) A (assign target env v) (fun _ s2 =>
     wpAny (model prog w) A (forIn ifs true fun c r=>if r=true then do let ok ← isTrue c env (eval c env); pure (ForInStep.yield ok) else pure (ForInStep.yield r)) (fun ok s3 =>
      if ok=true then wpAny (model prog w) A (eval elt env) (fun x s4 =>
       wpAny (model prog w) A (call (.builtin "list.append") [acc,x]) (fun _ s5=>∃ m,m<n∧J m s5) (notedBy (model prog w) A env fun e s'=>R (.error e) s') s4) (notedBy (model prog w) A env fun e s'=>R (.error e) s') s3
      else ∃ m,m<n∧J m s3) (notedBy (model prog w) A env fun e s'=>R (.error e) s') s2) (notedBy (model prog w) A env fun e s'=>R (.error e) s') s1') (notedBy (model prog w) A env fun e s'=>R (.error e) s') s1) (notedBy (model prog w) A env fun e s'=>R (.error e) s') s)
  (n:Nat) (h:J n s) :
  codeAny (model prog w) A (.compLoop (.ListComp elt [⟨target,iter,ifs,0⟩] scope pos) 0 it acc env) R s:=by
 refine codeAny_loop rfl J (fun n s hI=>?_) n h
 show wpAny _ A ((compTurn (.ListComp elt [⟨target,iter,ifs,0⟩] scope pos) 0 it acc env).onRaise (fun x=>do noteFrame x env; theTreesLotGoes x)) _ _ s
 refine wpAny_noted ?_
 rw [compTurn_list]
 refine wpAny_bind (wpAny_standAt (wpAny_bind (wpAny_mono (turn n s hI) (fun r s1 h1=>?_) fun _ _ h'=>h')))
 cases r with
 | none=>exact wpAny_pure h1
 | some v =>
  refine wpAny_bind (wpAny_mono h1 (fun _ s1' h1'=>?_) fun _ _ h'=>h')
  refine wpAny_bind (wpAny_mono h1' (fun _ s2 h2=>wpAny_bind (wpAny_mono h2 (fun ok s3 h3=>?_) fun _ _ h'=>h')) fun _ _ h'=>h')
  cases ok with
  | false=>exact wpAny_pure ⟨rfl,h3⟩
  | true =>
   exact wpAny_bind (wpAny_bind (wpAny_mono h3 (fun x s4 h4=>wpAny_bind (wpAny_mono h4 (fun _ s5 h5=>wpAny_pure (wpAny_pure ⟨rfl,h5⟩)) fun _ _ h'=>h')) fun _ _ h'=>h'))
def PTs (X:Cx) (ifs:List Expr) (t:TT):Prop :=
 ∀ (pins:List (Addr × Obj)) (s:Shared) (σ:St) (H:Hp) (Q:Bool→Hp→Prop),Inv X pins σ H s→t σ H Q →
  wpAny (model X.prog X.w) X.A (forIn ifs true fun c r=>if r=true then do let ok ← isTrue c X.env (eval c X.env); pure (ForInStep.yield ok) else pure (ForInStep.yield r)) (TP X pins σ Q) X.xe s
noncomputable def tYes:TT:=fun _ H Q=>Q true H
theorem pts_nil {X:Cx}:PTs X [] tYes:=fun pins s σ H Q I h=>wpAny_tests_nil ⟨H,I,h⟩
theorem pts_one {X:Cx}{c:Expr}{t:TT} (h:PT X c t):PTs X [c] t:=fun pins s σ H Q I hw=>wpAny_tests_one (h pins s σ H Q I hw)
def CTurn (J:It) (D:Addr) (W:Nat→Nat→List V→Hp→Prop) (Q:Hp→Prop) (g:TG) (tc:TT) (te:TE) (σ0:St) (i m:Nat) (ys:List V) (H2:Hp):Prop :=
 H2 D=some (.lst ys)∧((J.stop i H2∧Q H2)∨(J.go i H2∧ys.length<sizeLine∧∀ x H3,J.yld i H2 x H3→g x σ0 H3 fun σ4 H4=>WeakS σ0 σ4∧tc σ4 H4 fun b H5 =>
   if b=true then te σ4 H5 fun y H6=>H6 D=some (.lst ys)∧∃ m',m'<m∧W (i+1) m' (ys++[y]) (upd H6 D (.lst (ys++[y]))) else ∃ m',m'<m∧W (i+1) m' ys H5))
noncomputable def stC (k:Nat) (js:List Nat) (σ:St):St:=List.replicate k Option.none++js.map fun j=>(σ[j]?).getD Option.none
noncomputable def tComp (wi:TI) (k:Nat) (js:List Nat) (g:TG) (tc:TT) (te:TE):TE:=fun σ H Q =>
 wi σ H fun J H1=>∀ D,H1 D=none→∃ W:Nat→Nat→List V→Hp→Prop,(∃ m,W 0 m [] (upd H1 D (.lst [])))∧∀ i m ys H2,W i m ys H2→CTurn J D W (Q (.ref D)) g tc te (stC k js σ) i m ys H2
theorem stC_get {k:Nat}{js:List Nat}{σ:St}{i:Nat}{v:V} (h:(stC k js σ)[i]?=some (some v)):∃ j,k≤i∧js[i - k]?=some j∧σ[j]?=some (some v):=by
 unfold stC at h
 by_cases hi:i<k
 ·rw [List.getElem?_append_left (by simpa using hi),List.getElem?_replicate] at h
  simp [hi] at h
 ·rw [List.getElem?_append_right (by simpa using hi),List.length_replicate,List.getElem?_map] at h
  cases e:js[i - k]? with
  | none=>rw [e] at h; simp at h
  | some j =>
   rw [e] at h
   simp only [Option.map_some,Option.some.injEq] at h
   refine ⟨j,by omega,rfl,?_⟩
   cases q:σ[j]? with
   | none=>rw [q] at h; simp at h
   | some z =>
    rw [q] at h
    simp at h
    rw [h]
theorem relabel_free {scope:Scope}{env:Env}{x:Str} (h:scope.names.lookup x=some .free):(relabel scope env).names.lookup x=some .cell∨(relabel scope env).names.lookup x=some .free:=by
 unfold relabel
 dsimp only
 generalize scope.names=ns at h
 induction ns with
 | nil=>cases h
 | cons a r ih =>
  obtain ⟨n,k⟩:=a
  rw [List.lookup_cons] at h
  rw [List.map_cons]
  cases hx:x == n with
  | true =>
   rw [hx] at h
   cases h
   dsimp only
   split
   ·exact .inl (by rw [List.lookup_cons,hx])
   ·exact .inr (by rw [List.lookup_cons,hx])
  | false =>
   rw [hx] at h
   dsimp only
   split
   ·rw [List.lookup_cons,hx]; exact ih h
   ·rw [List.lookup_cons,hx]; exact ih h
inductive CInv (Y:Cx) (σ0:St) (tn:Nat→Heap→Prop) (fp:List Addr) (W:Nat→Nat→List V→Hp→Prop) (n:Nat) (s:Shared):Prop
 | mk (i:Nat) (ys:List V) (H:Hp) (I:Inv Y [] σ0 H s) (st:tn i s.heap) (fr:∀ b∈fp,H b=none) (w:W i n ys H)
theorem comp_loop {Y:Cx}{elt iter tg:Expr}{ifs:List Expr}{scope:Scope}{pos:Pos}{g:TG}{tc:TT}{te:TE}{J:It}{fp:List Addr}{it D:Addr}{tn:Nat→Heap→Prop}{σ0:St}{W:Nat→Nat→List V→Hp→Prop}{Q:Hp→Prop}{R:Result→Shared→Prop}
  (hc:Y.calm=true) (hx:Y.xe=fun _ _=>False) (T:Turn Y.prog Y.w Y.K tg J fp it tn) (stat:∀ H',(∀ b∈fp,H' b=none)→∀ b∈fp,FpOk Y [] H' b)
  (hg:PG Y tg g) (htc:PTs Y ifs tc) (hte:PE Y elt te) (turn:∀ i m ys H2,W i m ys H2→CTurn J D W Q g tc te σ0 i m ys H2) (fin:∀ H4 s5,Inv Y [] σ0 H4 s5→Q H4→R (.ok .next) s5)
  {s:Shared}{n:Nat} (h0:CInv Y σ0 tn fp W n s) (st3:tn 0 s.heap):codeAny (model Y.prog Y.w) Y.A (.compStart (.ListComp elt [⟨tg,iter,ifs,0⟩] scope pos) 0 (.ref it) (.ref D) Y.env) R s:=by
 have loop:codeAny (model Y.prog Y.w) Y.A (.compLoop (.ListComp elt [⟨tg,iter,ifs,0⟩] scope pos) 0 (.ref it) (.ref D) Y.env) R s:=by
  refine compLoop_go (CInv Y σ0 tn fp W) ?_ n h0
  rintro n s4 ⟨i,ys,H4,I4,st4,fr4,w4⟩
  obtain ⟨hD4,hd⟩:=turn i n ys H4 w4
  rcases hd with ⟨stop,q⟩ | ⟨go,hz,step⟩
  ·refine thn (T.done Y rfl rfl rfl hc i [] s4 _ H4 _ I4 (stat _ fr4) st4 stop) fun r s5 ⟨hr,I5⟩=>?_
   subst hr
   exact fin H4 s5 I5 q
  ·refine thn (T.item Y rfl rfl rfl hc i [] s4 _ H4 _ I4 (stat _ fr4) st4 go) fun r s5 ⟨u,hr,h5⟩=>?_
   subst hr
   refine thn h5 fun _ s6 ⟨x,H6,I6,r6,y6,st6,fr6⟩=>?_
   have I6':=I6.pinned (stat _ fr6) (T.obj _ _ st6)
   have back:∀ {σ7:St}{H7:Hp}{s7:Shared}{m:Nat}{zs:List V},Inv Y ([]++pinsAt fp s6.heap) σ7 H7 s7→WeakS σ0 σ7→W (i+1) m zs H7→CInv Y σ0 tn fp W m s7:=fun {σ7 H7 s7 m zs} I7 hw w7=>by
    refine ⟨i+1,zs,H7,I7.unpinned.weak hw.1 hw.2,T.keep _ _ _ st6 fun b hb o e=>(I7.pin (b,o) (List.mem_append_right _ (List.mem_append_right _ (mem_pinsAt hb e)))).1,fun b hb=>?_,w7⟩
    obtain ⟨o,e,d⟩:=T.obj _ _ st6 b hb
    exact (I7.pin (b,o) (List.mem_append_right _ (List.mem_append_right _ (mem_pinsAt hb e)))).2.1
   have no:∀ {E:Value→Shared→Prop} (e:Value) (s':Shared),Y.xe e s'→E e s':=fun e s' z=>by rw [hx] at z; exact z.elim
   refine wpAny_mono (hg _ s6 _ H6 x u _ I6' r6 (step x H6 y6)) (fun _ s7 ⟨σ7,H7,I7,hw7,q7⟩=>?_) no
   refine wpAny_mono (htc _ s7 σ7 H7 _ I7 q7) (fun b s8 ⟨H8,I8,q8⟩=>?_) no
   cases b with
   | false =>
    obtain ⟨m',hm,w8⟩:=(show ∃ m',m'<n∧W (i+1) m' ys H8 by simpa using q8)
    rw [if_neg (by decide)]
    exact ⟨m',hm,back I8 hw7 w8⟩
   | true =>
    rw [if_pos rfl] at q8
    rw [if_pos rfl]
    refine wpAny_mono (hte _ s8 σ7 H8 _ I8 q8) (fun y s9 ⟨vy,H9,I9,r9,q9⟩=>?_) no
    obtain ⟨hD9,m',hm,w9⟩:=q9
    refine wpAny_mono (mt_append (X:=Y) _ s9 σ7 H9 (.ref D) [vy] (.ref D) [y] (fun _ H'=>W (i+1) m' (ys++[vy]) H') I9 rfl (.cons r9 .nil) ⟨_,ys,vy,rfl,rfl,hD9,hz,w9⟩) (fun z s10 ⟨_,H10,I10,_,q10⟩=>?_) no
    exact ⟨m',hm,back I10 hw7 q10⟩
 exact codeAny_compStart_list loop (T.self _ 0 _ _ _ st3 loop)
theorem comp_enter {elt iter tg:Expr}{ifs:List Expr}{pos:Pos}{k:Nat}{js:List Nat}{J:It}{fp:List Addr}{it:Addr}{tn:Nat→Heap→Prop}{H2:Hp}{s2:Shared}{RR:Value→Addr→Result→Shared→Prop}
  (B:CompH X scope N k js) (I2:Inv X pins σ H2 s2) (T:Turn X.prog X.w X.K tg J fp it tn) (st2:tn 0 s2.heap) (f2:∀ b∈fp,FpOk X pins H2 b)
  (h:∀ (cl:List (Str × Addr)) (C:Addr) (s4:Shared),s2.heap.objs.size≤C→s2.heap.objs.size≠C→Inv (cxComp X scope N cl s2 H2 C fp) [] (stC k js σ) (upd H2 s2.heap.objs.size (.lst [])) s4→tn 0 s4.heap →
   codeAny (model X.prog X.w) X.A (.compStart (.ListComp elt [⟨tg,iter,ifs,0⟩] scope pos) 0 (.ref it) (.ref s2.heap.objs.size) (compEnvC scope cl C X.env)) (RR (.ref s2.heap.objs.size) C) s4) :
  wpAny (model X.prog X.w) X.A (newList []) (fun acc s3=>wpAny (model X.prog X.w) X.A (newFunctionEnv scope X.env.globals (clOf X.env scope.names []) [] X.env.qual none .none (some X.env)) (fun cenv s4 =>
   codeAny (model X.prog X.w) X.A (.compStart (.ListComp elt [⟨tg,iter,ifs,0⟩] scope pos) 0 (.ref it) acc { cenv with scope:=relabel scope X.env }) (RR acc cenv.locals) s4) X.xe s3) X.xe s2:=by
 have hcell:∀ x,(x,NameKind.free)∈scope.names→∃ c,X.env.cells.lookup x=some c:=fun x hx=>I2.ok.has x (B.free x hx)
 refine wpAny_newObj_type (wpAny_blockEnv ?_)
 dsimp only
 generalize hP:s2.heap.push { cls:=.type "list",dict:=none,data:=.seq ([]:List Value).toArray }=P
 have hPs:P.objs.size=s2.heap.objs.size+1:=by rw [← hP,Heap.size_push]
 have hDC:s2.heap.objs.size≠P.objs.size:=by rw [hPs]; exact Nat.ne_of_lt (Nat.lt_succ_self _)
 have hCle:s2.heap.objs.size≤P.objs.size:=by rw [hPs]; exact Nat.le_succ _
 generalize hP2:P.push { cls:=.type "dict",data:=.dict #[] }=P2
 have hP2s:P2.objs.size=P.objs.size+1:=by rw [← hP2,Heap.size_push]
 have hns1:(pushCells P2 scope.names).Ns P.objs.size (fun _=>none):=(hP2▸Heap.Ns.new P (.type "dict")).keeps (pushCells_keeps _ _)
 have old:∀ b o,s2.heap.get? b=some o→(pushCells P2 scope.names).get? b=some o:=fun b o e=>pushCells_keeps _ _ _ _ (hP2▸Heap.get?_push_of_some _ (hP▸Heap.get?_push_of_some _ e))
 have hacc:(pushCells P2 scope.names).get? s2.heap.objs.size=some { cls:=.type "list",dict:=none,data:=.seq ([]:List Value).toArray }:=pushCells_keeps _ _ _ _ (hP2▸Heap.get?_push_of_some _ (hP▸Heap.get?_push_size _ rfl))
 have hfx:∀ b∈fp,b<s2.heap.objs.size:=fun b hb=>by
  obtain ⟨o,e,_⟩:=T.obj _ _ st2 b hb
  exact Heap.lt_size e
 have ok:=I2.compOk (N:=N) (C:=P.objs.size) (ex:=fp) B.kind hcell hP2s hCle f2 hfx
 refine h (cellsFrom P2.objs.size scope.names (clOf X.env scope.names [])) P.objs.size _ hCle hDC ?_ (T.keep _ _ _ st2 fun b _ o e=>old b o e)
 refine ⟨ok,rfl,I2.bare,Un.laid old (Nat.le_refl _) (I2.hok.fresh (Nat.le_refl _)),⟨_,hns1,fun i x v e1 e2 e3=>?_⟩,fun x c e=>?_,?_,fun x c e=>?_,fun p hp=>(by cases hp),I2.hok.laid old (Nat.le_refl _) ?_,?_⟩
 ·obtain ⟨j,hki,hj,hv⟩:=stC_get e2
  obtain ⟨y,n1,n2,n3,n4⟩:=B.js _ j hj
  have ei:k+(i - k)=i:=by omega
  rw [ei] at n1
  have e1':N[i]?=some x:=e1
  rw [n1] at e1'
  cases e1'
  obtain ⟨m,hn,hl⟩:=I2.loc
  obtain ⟨u,r,lk⟩:=hl j x v n2 hv n4
  refine ⟨u,r,?_⟩
  have mem:=mem_of_look n3
  rcases lk with ⟨kk,_⟩ | ⟨kk,c,ec,ce⟩
  ·rcases B.free x mem with z | z
   ·rw [z] at kk; cases kk
   ·rw [z] at kk; cases kk
  ·obtain ⟨c0,ec0⟩:=cells_some scope.names P2.objs.size _ (.inr (clOf_has (env:=X.env) scope.names [] x (.inr ⟨mem,c,ec⟩)))
   have hc0:c0=c:=by
    rcases cells_look _ _ _ ec0 with ⟨q,_⟩ | ⟨_,q⟩
    ·have:=B.cell x q; rw [n3] at this; cases this
    ·have:=clSub q; rw [ec] at this; cases this; rfl
   subst hc0
   refine .inr ⟨relabel_free n3,c0,ec0,?_⟩
   obtain ⟨o,ho,hd⟩:=ce
   exact ⟨o,old _ _ ho,hd⟩
 ·rcases cells_look _ _ _ e with ⟨_,_,q⟩ | ⟨_,q⟩
  ·exact ⟨_,q⟩
  ·obtain ⟨v,o,ho,hd⟩:=I2.cell x c (clSub q)
   exact ⟨v,o,old _ _ ho,hd⟩
 ·show upd H2 s2.heap.objs.size (.lst []) P.objs.size=none
  rw [upd_ne (Ne.symm hDC)]
  exact I2.hok.fresh hCle
 ·rcases cells_look _ _ _ e with ⟨_,q,_⟩ | ⟨_,q⟩
  ·have hlt:s2.heap.objs.size<c:=Nat.lt_of_lt_of_le (by rw [hP2s,hPs]; omega) q
   rw [upd_ne (Nat.ne_of_gt hlt)]
   exact I2.hok.fresh (Nat.le_of_lt hlt)
  ·obtain ⟨v,o,ho,hd⟩:=I2.cell x c (clSub q)
   rw [upd_ne (Nat.ne_of_lt (Heap.lt_size ho))]
   exact I2.freeC x c (clSub q)
 ·exact ⟨Nat.zero_le _,[],_,.nil,hacc⟩
 ·unfold stC
  rw [List.length_append,List.length_replicate,List.length_map]
  exact B.len.symm
theorem comp_run {elt iter tg:Expr}{ifs:List Expr}{pos:Pos}{k:Nat}{js:List Nat}{g:TG}{tc:TT}{te:TE}{J:It}{fp:List Addr}{it:Addr}{tn:Nat→Heap→Prop}{H2:Hp}{s2:Shared}{RR:Value→Addr→Result→Shared→Prop}{Q:V→Hp→Prop}
  (B:CompH X scope N k js) (I2:Inv X pins σ H2 s2) (T:Turn X.prog X.w X.K tg J fp it tn) (st2:tn 0 s2.heap) (f2:∀ b∈fp,FpOk X pins H2 b)
  (hg:∀ cl s H C ex,PG (cxComp X scope N cl s H C ex) tg g) (htc:∀ cl s H C ex,PTs (cxComp X scope N cl s H C ex) ifs tc) (hte:∀ cl s H C ex,PE (cxComp X scope N cl s H C ex) elt te)
  (hW:∀ D,H2 D=none→∃ W:Nat→Nat→List V→Hp→Prop,(∃ m,W 0 m [] (upd H2 D (.lst [])))∧∀ i m ys H2,W i m ys H2→CTurn J D W (Q (.ref D)) g tc te (stC k js σ) i m ys H2)
  (fin:∀ cl C H4 s5,s2.heap.objs.size≤C→s2.heap.objs.size≠C→Inv (cxComp X scope N cl s2 H2 C fp) [] (stC k js σ) H4 s5→Q (.ref s2.heap.objs.size) H4→RR (.ref s2.heap.objs.size) C (.ok .next) s5) :
  wpAny (model X.prog X.w) X.A (newList []) (fun acc s3=>wpAny (model X.prog X.w) X.A (newFunctionEnv scope X.env.globals (clOf X.env scope.names []) [] X.env.qual none .none (some X.env)) (fun cenv s4 =>
   codeAny (model X.prog X.w) X.A (.compStart (.ListComp elt [⟨tg,iter,ifs,0⟩] scope pos) 0 (.ref it) acc { cenv with scope:=relabel scope X.env }) (RR acc cenv.locals) s4) X.xe s3) X.xe s2:=by
 obtain ⟨W,⟨m0,w0⟩,turn⟩:=hW s2.heap.objs.size (I2.hok.fresh (Nat.le_refl _))
 refine comp_enter B I2 T st2 f2 fun cl C s4 h1 h2 I4 st4=>?_
 refine comp_loop (Y:=cxComp X scope N cl s2 H2 C fp) B.calm rfl T (fun H' hn b hb=>⟨hn b hb,(I4.ok.exf b hb).1,I4.ok.exfs b hb,.inl hb,(I4.ok.exf b hb).2,fun p hp=>by cases hp⟩) (hg _ _ _ _ _) (htc _ _ _ _ _) (hte _ _ _ _ _) turn (fun H4 s5 I5 q=>fin cl C H4 s5 h1 h2 I5 q) (n:=m0) ⟨0,[],_,I4,st4,fun b hb=>?_,w0⟩ st4
 obtain ⟨o,e,_⟩:=T.obj _ _ st2 b hb
 rw [upd_ne (Nat.ne_of_lt (Heap.lt_size e))]
 exact (f2 b hb).1
theorem pe_comp {elt iter tg:Expr}{ifs:List Expr}{pos:Pos}{wi:TI}{g:TG}{tc:TT}{te:TE}{k:Nat}{js:List Nat} (B:CompH X scope N k js) (hi:PI X tg iter wi)
  (hg:∀ cl s H C ex,PG (cxComp X scope N cl s H C ex) tg g) (htc:∀ cl s H C ex,PTs (cxComp X scope N cl s H C ex) ifs tc) (hte:∀ cl s H C ex,PE (cxComp X scope N cl s H C ex) elt te)
  (hs:∀ x,foldedSetIterable iter X.env x=pure x:=by intro _; rfl):PE X (.ListComp elt [⟨tg,iter,ifs,0⟩] scope pos) (tComp wi k js g tc te):=by
 intro pins s σ H Q I h
 rw [eval_ListComp]
 refine wpAny_comprehension_free (use:=none) rfl hs (closureFor_ok fun x hx=>I.ok.has x (B.free x hx)) B.kind B.names (thn (hi pins s σ H _ I h) fun v s1 h1=>thn h1 fun itv s2 h2=>?_)
 obtain ⟨it,fp,tn,J,H2,e,I2,T,st2,f2,hW⟩:=h2
 subst e
 refine comp_run B I2 T st2 f2 hg htc hte hW fun cl C H4 s5 hCle hDC I5 q=>?_
 obtain ⟨m,hn,_⟩:=id I5.loc
 have hC4:H4 C=none:=I5.free
 refine ⟨m,hn,fun h' hs'=>⟨.ref s2.heap.objs.size,H4,?_,rfl,q⟩⟩
 have bl:∀ b o,s2.heap.get? b=some o→b≠C:=fun b o e=>Nat.ne_of_lt (Nat.lt_of_lt_of_le (Heap.lt_size e) hCle)
 refine I2.call' (s':={ s5 with heap:=h' }) (ch:=fp) I5.os ?_ (fun b u e=>?_) I5.bare (fun b hb=>⟨(f2 b hb).2.2.2.1,(f2 b hb).2.1,(f2 b hb).2.2.2.2.1,(f2 b hb).2.2.2.2.2⟩)
 ·have U:=I5.base
  exact ⟨fun b o e n hb hx=>(hs'.2 b (bl b o e)).trans (U.keep b o e n hb hx),fun b o e n hb hx=>by
    obtain ⟨sl,z⟩:=U.slot b o e n hb hx
    exact ⟨sl,(hs'.2 b (bl b o e)).trans z⟩,U.free,fun b o e hx=>by
    obtain ⟨o',z⟩:=U.there b o e hx
    exact ⟨o',(hs'.2 b (bl b o e)).trans z⟩,U.tups,U.frzs,U.tbls⟩
 ·refine (I5.hok b u e).stay (fun c w' hcc q'=>(hs'.2 c ?_).trans q') (fun _ q'=>q') fun _ _ q'=>q'
  rintro rfl
  rcases hcc with rfl | hcc
  ·rw [hC4] at e; cases e
  ·rw [hC4] at hcc; cases hcc
end
theorem same_new {H:Hp}{p:Addr} (h:H p=none) (o:HO):Same H (upd H p o):=fun b u q=>by rw [upd_ne (ne_of_none q h)]; exact q
theorem Same.tup {K:W.Frag}{H H':Hp}{a:Addr}{xs:List V} (e:Same H H') (h:SqT K H a xs):SqT K H' a xs:=by
 rcases h with (h | ⟨o,h⟩) | h
 ·exact .inl (.inl (e _ _ h))
 ·exact .inl (.inr ⟨o,e _ _ h⟩)
 ·exact .inr h
section
variable {X:Cx}{pins:List (Addr × Obj)}{σ:St}{H:Hp}{s:Shared}
theorem Inv.yields {wr:List Addr}{h':Heap}{tk:Nat}{T:Addr}{xs:List V}{its:List Value} (I:Inv X pins σ H s) (hf:∀ b∈wr,FpOk X pins H b) (k:∀ b o,b∉wr→s.heap.get? b=some o→h'.get? b=some o)
  (hT:s.heap.objs.size≤T) (r:Vals xs its) (hz:xs.length≤sizeLine) (ht:IsTup h' T its.toArray):Inv X pins σ (upd H T (.tup xs)) { s with heap:=h',toks:=tk }:=by
 have nT:∀ b o,s.heap.get? b=some o→b≠T:=fun b o e=>Nat.ne_of_lt (Nat.lt_of_lt_of_le (Heap.lt_size e) hT)
 have hH:∀ b u,H b=some u→b≠T:=fun b u e=>Nat.ne_of_lt (Nat.lt_of_lt_of_le (I.hok.lt e) hT)
 have nw:∀ b u,H b=some u→b∉wr:=fun b u e hb=>by rw [(hf b hb).1] at e; cases e
 refine I.call' (s':={ s with heap:=h',toks:=tk }) (ch:=wr) rfl ⟨fun b o e n _ hx=>k b o hx e,fun b o e n _ hx=>⟨o.slots,k b o hx e⟩,fun b o e n _=>?_,fun b o e hx=>⟨o,k b o hx e⟩,fun b ys e=>?_,fun b o u e=>?_,fun b ps e=>⟨#[],?_⟩⟩ (fun b u e=>?_) I.bare
  (fun b hb=>⟨(hf b hb).2.2.2.1,(hf b hb).2.1,(hf b hb).2.2.2.2.1,(hf b hb).2.2.2.2.2⟩)
 ·rw [upd_ne (nT b o e)]; exact n
 ·rw [upd_ne (hH b _ e)]; exact e
 ·rw [upd_ne (hH b _ e)]; exact e
 ·rw [upd_ne (hH b _ e),e]; simp
 ·by_cases hb:b=T
  ·subst hb
   rw [upd_same] at e
   cases e
   exact ⟨hz,its,r,ht⟩
  ·rw [upd_ne hb] at e
   refine (I.hok b u e).stay (fun c v hc q=>k c v ?_ q) (fun c q=>?_) fun c ys q=>?_
   ·rcases hc with rfl | hc
    ·exact nw _ _ e
    ·exact nw _ _ hc
   ·rw [upd_ne (hH c _ q)]; exact q
   ·rw [upd_ne (hH c _ q)]; exact q
theorem Inv.turnedL {wr:List Addr}{h':Heap}{tk:Nat} (I:Inv X pins σ H s) (hf:∀ b∈wr,FpOk X pins H b) (k:∀ b o,b∉wr→s.heap.get? b=some o→h'.get? b=some o):Inv X pins σ H { s with heap:=h',toks:=tk }:=by
 have nw:∀ b u,H b=some u→b∉wr:=fun b u e hb=>by rw [(hf b hb).1] at e; cases e
 refine I.call' (s':={ s with heap:=h',toks:=tk }) (ch:=wr) rfl ⟨fun b o e n _ hx=>k b o hx e,fun b o e n _ hx=>⟨o.slots,k b o hx e⟩,fun b o e n _=>n,fun b o e hx=>⟨o,k b o hx e⟩,fun b ys e=>e,fun b o u e=>e,fun b ps e=>⟨#[],by rw [e]; simp⟩⟩ (fun b u e=>?_) I.bare
  (fun b hb=>⟨(hf b hb).2.2.2.1,(hf b hb).2.1,(hf b hb).2.2.2.2.1,(hf b hb).2.2.2.2.2⟩)
 refine (I.hok b u e).stay (fun c v hc q=>k c v ?_ q) (fun c q=>q) fun c ys q=>q
 rcases hc with rfl | hc
 ·exact nw _ _ e
 ·exact nw _ _ hc
end
section
variable {X:Cx}
theorem call_range2:CallR X (.type "range") (fun vs H Q=>∃ i j:Int,vs=[.int i,.int j]∧∀ p,H p=none→Q (.ref p) (upd H p (.rng i j))):=by
 intro pins s σ H xs us Q I r h
 obtain ⟨i,j,rfl,q⟩:=h
 obtain ⟨u,v,rfl,ru,rv⟩:=vals2 r
 obtain ⟨t,rfl⟩:=ru
 obtain ⟨t',rfl⟩:=rv
 refine call_range_2 ⟨.ref s.heap.objs.size,_,I.laid (o:=.rng i j) (fun b o e=>Heap.get?_push_of_some _ e) (Nat.le_refl _) ?_,rfl,q _ (I.hok.fresh (Nat.le_refl _))⟩
 exact ⟨_,_,_,Heap.get?_push_size _ rfl⟩
theorem call_range1:CallR X (.type "range") (fun vs H Q=>∃ j:Int,vs=[.int j]∧∀ p,H p=none→Q (.ref p) (upd H p (.rng 0 j))):=by
 intro pins s σ H xs us Q I r h
 obtain ⟨j,rfl,q⟩:=h
 obtain ⟨u,rfl,ru⟩:=vals1 r
 obtain ⟨t,rfl⟩:=ru
 refine call_range_1 ⟨.ref s.heap.objs.size,_,I.laid (o:=.rng 0 j) (fun b o e=>Heap.get?_push_of_some _ e) (Nat.le_refl _) ?_,rfl,q _ (I.hok.fresh (Nat.le_refl _))⟩
 exact ⟨_,_,_,Heap.get?_push_size _ rfl⟩
noncomputable def upV (lo:Int) (n:Nat):List V:=(List.range n).map fun k=>V.int (lo+(k:Nat))
theorem vals_up {lo:Int}{n:Nat}{acc:Array Value} (h:ItemsOf (fun i v=>∃ t,v=.int (lo+i*1) t) acc n):Vals (upV lo n) acc.toList:=by
 obtain ⟨hs,h⟩:=h
 have key:∀ (k:Nat) (us:List Value) (lo:Int),us.length=k→(∀ (i:Nat) (v:Value),us[i]?=some v→∃ t,v=Value.int (lo+(i:Nat)) t)→Vals ((List.range k).map fun j=>V.int (lo+(j:Nat))) us:=by
  intro k
  induction k with
  | zero=>intro us lo hl _; cases us with
   | nil=>exact .nil
   | cons a r=>simp at hl
  | succ k ih =>
   intro us lo hl hh
   cases us with
   | nil=>simp at hl
   | cons a r =>
    rw [List.range_succ_eq_map,List.map_cons,List.map_map]
    refine .cons ?_ ?_
    ·obtain ⟨t,e⟩:=hh 0 a rfl
     exact ⟨t,e⟩
    ·have:=ih r (lo+1) (by simpa using hl) fun i v e=>by
      obtain ⟨t,q⟩:=hh (i+1) v (by simpa using e)
      exact ⟨t,by rw [q]; congr 1; omega⟩
     have e:((fun (j:Nat)=>V.int (lo+(j:Nat)))∘Nat.succ)=fun (j:Nat)=>V.int (lo+1+(j:Nat)):=by
      funext j
      simp only [Function.comp]
      congr 1
      omega
     rw [e]
     exact this
 exact key n acc.toList lo (by simpa using hs) fun i v e=>by
  obtain ⟨t,q⟩:=h i v (by simpa using e)
  exact ⟨t,by rw [q,Int.mul_one]⟩
theorem call_list_rng (hc:X.calm=true):CallR X (.type "list") (fun vs H Q=>∃ p i j,vs=[.ref p]∧H p=some (.rng i j)∧-(2 ^ 62)≤i∧i<2 ^ 62∧-(2 ^ 62)≤j∧j<2 ^ 62∧(j - i).toNat≤1000∧∀ l,H l=none→Q (.ref l) (upd H l (.lst (upV i (j - i).toNat)))):=by
 intro pins s σ H xs us Q I r h
 obtain ⟨p,i,j,rfl,hp,b1,b2,b3,b4,hn,q⟩:=h
 obtain ⟨u,rfl,ru⟩:=vals1 r
 cases ru
 obtain ⟨t,u,v,e⟩:=(show ObjOk X.prog X.w H s.heap p (.rng i j) from I.hok _ _ hp)
 refine call_list_range (n:=(j - i).toNat) (I.ok.hd hc) (show IsRange s.heap p i j 1 t u v from e) (small_one b1 b2 b3 b4) (by rw [rangeSize_one]; split <;> omega) (Nat.le_trans hn (by decide)) fun h' tk acc' c' hk he hi=>?_
 have hv:=vals_up hi
 refine ⟨.ref s.heap.objs.size,_,I.laid (o:=.lst (upV i (j - i).toNat)) hk (Nat.le_refl _) ⟨?_,acc'.toList,c',hv,by simpa using he⟩,rfl,q _ (I.hok.fresh (Nat.le_refl _))⟩
 unfold upV
 rw [List.length_map,List.length_range]
 exact Nat.le_trans hn (by decide)
noncomputable def rInsert:V→List V→Hp→VK→Prop:=fun x vs H Q=>∃ (l:Addr) (xs:List V) (i:Nat) (y:V),x=.ref l∧vs=[.int i,y]∧H l=some (.lst xs)∧xs.length<1000∧i≤xs.length∧Q .non (upd H l (.lst (xs.take i++y::xs.drop i)))
theorem mt_insert:MtM X "list.insert" rInsert:=by
 intro pins s σ H x vs v us Q I rx rv h
 obtain ⟨l,xs,i,y,rfl,rfl,hH,hz,hi,q⟩:=h
 cases rx
 obtain ⟨u1,u2,rfl,r1,r2⟩:=rv.two
 obtain ⟨t,rfl⟩:=r1
 obtain ⟨z,its,n,r,hl,e⟩:=I.lstM hH
 generalize hx:((i:Nat):Int)=x
 have hx0:0≤x:=by omega
 have hx1:x.toNat=i:=by omega
 have hfit:¬ (!Builtin.List.listFitsIndex x)=true:=by
  rw [fitsIndex_both (by omega) (by omega)]
  exact Bool.false_ne_true
 have hsz:its.toArray.size≤sizeLine:=by rw [List.size_toArray,← hl]; exact z
 refine call_meets F.slot_list_insert ⟨_,e,rfl⟩ F.entry_list_insert (F.args_list_insert_3 _ _ _) (PySem.AutoSeq1.list_insert_list_int_val_1 l _ n x t u2 hfit hsz) ⟨e,?_⟩
 refine ⟨.non,_,I.lset (its':=its.take i++u2::its.drop i) hH e ?_ ((r.take i).append (.cons r2 (r.drop i))) ?_,rfl,q⟩
 ·have hk:(if x<0 then (x+((its.toArray.size:Nat):Int)).toNat else min x.toNat its.toArray.size)=i:=by
   rw [if_neg (by omega),List.size_toArray]
   omega
  show (its.toArray.extract 0 (if x<0 then (x+((its.toArray.size:Nat):Int)).toNat else min x.toNat its.toArray.size)).push u2++its.toArray.extract (if x<0 then (x+((its.toArray.size:Nat):Int)).toNat else min x.toNat its.toArray.size)=_
  rw [hk]
  apply Array.ext'
  simp
  exact List.take_of_length_le (by rw [List.length_drop]; exact Nat.le_refl _)
 ·rw [List.length_append,List.length_cons,List.length_take,List.length_drop]
  have:(1000:Nat)≤sizeLine:=by decide
  omega
theorem truth_bools {A:Around}{prog:Program}{w:World}{bs:List Bool}{its:List Value} (r:Vals (bs.map V.bl) its):TruthOf prog w A (fun i v=>its.toArray[i]?=some v) (fun i=>bs.getD i false):=by
 intro i v s Q E hv hq
 have hv':its[i]?=some v:=by simpa using hv
 have hl:i<bs.length:=by
  have h1:=(List.getElem?_eq_some_iff.mp hv').1
  have h2:=r.length
  rw [List.length_map] at h2
  omega
 obtain ⟨u,e,ru⟩:=Vals.get r (i:=i) (x:=.bl bs[i]) (by rw [List.getElem?_map,List.getElem?_eq_getElem hl]; rfl)
 rw [e] at hv'
 cases hv'
 have ru':v=Value.bool bs[i]:=ru
 subst ru'
 have eq:bs.getD i false=bs[i]:=by simp [List.getD,hl]
 have hq':Q (bs.getD i false) s:=hq
 rw [eq] at hq'
 exact wpAny_truthy_bool hq'
theorem range_all (bs:List Bool):(List.range bs.length).all (fun i=>bs.getD i false)=bs.all id:=by
 induction bs with
 | nil=>rfl
 | cons b r ih =>
  rw [List.length_cons,List.range_succ_eq_map,List.all_cons,List.all_map,List.all_cons]
  show (b&&(List.range r.length).all ((fun i=>(b::r).getD i false)∘Nat.succ))=(b&&r.all id)
  rw [← ih]
  rfl
theorem range_any (bs:List Bool):(List.range bs.length).any (fun i=>bs.getD i false)=bs.any id:=by
 induction bs with
 | nil=>rfl
 | cons b r ih =>
  rw [List.length_cons,List.range_succ_eq_map,List.any_cons,List.any_map,List.any_cons]
  show (b||(List.range r.length).any ((fun i=>(b::r).getD i false)∘Nat.succ))=(b||r.any id)
  rw [← ih]
  rfl
theorem call_allL (hc:X.calm=true):CallR X (.builtin "all") (fun vs H Q=>∃ (p:Addr) (bs:List Bool),vs=[.ref p]∧SqL X.K H p (bs.map V.bl)∧Q (.bl (bs.all id)) H):=by
 intro pins s σ H xs us Q I r h
 obtain ⟨p,bs,rfl,hq,q⟩:=h
 obtain ⟨u,rfl,ru⟩:=vals1 r
 cases ru
 obtain ⟨its,rv,pl,hz⟩:=I.list hq
 have hlt:p<s.heap.objs.size:=by obtain ⟨_,e,_⟩:=pl.isList; exact Heap.lt_size e
 have hlen:=rv.length
 rw [List.length_map] at hlen
 refine call_all_walk (wpAny_pyIter_list pl.isList ?_)
 refine ⟨s.heap.objs.size,_,[s.heap.objs.size],_,_,_,_,rfl,Walks.list (A:=X.A.in1) (show X.A.in1.handled=none from I.ok.hd hc) s.heap.objs.size p (Nat.ne_of_lt hlt) its.toArray,⟨⟨_,Heap.get?_push_size _ rfl,rfl,rfl⟩,pl.isList.push _⟩,truth_bools rv,fun h' tk kk=>?_⟩
 have e:(List.range its.toArray.size).all (fun i=>bs.getD i false)=bs.all id:=by rw [List.size_toArray,← hlen]; exact range_all bs
 rw [e]
 refine ⟨.bl (bs.all id),H,?_,rfl,q⟩
 exact I.kept (t':=tk) fun b o eb=>kk b o (by simp only [List.mem_singleton]; exact Nat.ne_of_lt (Heap.lt_size eb)) (Heap.get?_push_of_some _ eb)
theorem call_anyL (hc:X.calm=true):CallR X (.builtin "any") (fun vs H Q=>∃ (p:Addr) (bs:List Bool),vs=[.ref p]∧SqL X.K H p (bs.map V.bl)∧Q (.bl (bs.any id)) H):=by
 intro pins s σ H xs us Q I r h
 obtain ⟨p,bs,rfl,hq,q⟩:=h
 obtain ⟨u,rfl,ru⟩:=vals1 r
 cases ru
 obtain ⟨its,rv,pl,hz⟩:=I.list hq
 have hlt:p<s.heap.objs.size:=by obtain ⟨_,e,_⟩:=pl.isList; exact Heap.lt_size e
 have hlen:=rv.length
 rw [List.length_map] at hlen
 refine call_any_walk (wpAny_pyIter_list pl.isList ?_)
 refine ⟨s.heap.objs.size,_,[s.heap.objs.size],_,_,_,_,rfl,Walks.list (A:=X.A.in1) (show X.A.in1.handled=none from I.ok.hd hc) s.heap.objs.size p (Nat.ne_of_lt hlt) its.toArray,⟨⟨_,Heap.get?_push_size _ rfl,rfl,rfl⟩,pl.isList.push _⟩,truth_bools rv,fun h' tk kk=>?_⟩
 have e:(List.range its.toArray.size).any (fun i=>bs.getD i false)=bs.any id:=by rw [List.size_toArray,← hlen]; exact range_any bs
 rw [e]
 refine ⟨.bl (bs.any id),H,?_,rfl,q⟩
 exact I.kept (t':=tk) fun b o eb=>kk b o (by simp only [List.mem_singleton]; exact Nat.ne_of_lt (Heap.lt_size eb)) (Heap.get?_push_of_some _ eb)
theorem op_is_bl:OpR X (compareOp .Is) (fun x y H Q=>∃ a b,x=.bl a∧y=.bl b∧Q (.bl (a == b)) H):=by
 intro pins s σ H x y v u Q I rx ry h
 obtain ⟨a,b,rfl,rfl,q⟩:=h
 cases rx
 cases ry
 exact is_bool ⟨.bl (a == b),H,I,rfl,q⟩
theorem op_isnot_bl:OpR X (compareOp .IsNot) (fun x y H Q=>∃ a b,x=.bl a∧y=.bl b∧Q (.bl (a != b)) H):=by
 intro pins s σ H x y v u Q I rx ry h
 obtain ⟨a,b,rfl,rfl,q⟩:=h
 cases rx
 cases ry
 exact isnot_bool ⟨.bl (a != b),H,I,rfl,q⟩
end
section
variable {X:Cx}
noncomputable def rCatT2 (K:W.Frag):R2:=fun x y H Q=>∃ a b xs ys,x=.ref a∧y=.ref b∧H a=some (.tup xs)∧H b=some (.tup ys)∧xs.length+ys.length≤sizeLine∧∀ p H1,Same H H1→H1 p=some (.tup (xs++ys))→Q (.ref p) H1
theorem op_catT2:OpR X (binaryOp .Add) (rCatT2 X.K):=by
 intro pins s σ H x y v u Q I rx ry h
 obtain ⟨a,b,xs,ys,rfl,rfl,ha,hb,hz,q⟩:=h
 by_cases hx:xs=[]
 ·subst hx
  cases rx
  cases ry
  obtain ⟨its,r1,p1,_⟩:=I.tuple (SqT.of ha)
  obtain ⟨its2,r2,p2,_⟩:=I.tuple (SqT.of hb)
  have e:its=[]:=(r1.nil_iff).mpr rfl
  subst e
  obtain ⟨⟨cls,dd,data,sl⟩,ho,hc,n,hd⟩:=id p1
  obtain ⟨⟨cls2,dd2,data2,sl2⟩,ho2,hc2,n2,hd2⟩:=id p2
  simp only at hc hd hc2 hd2
  subst hc hd hc2 hd2
  exact concat_meets ⟨_,ho,rfl⟩ ⟨_,ho2,rfl⟩ noFill_tuple_add seq_tuple_add PySem.F.slot_tuple_add PySem.F.entry_tuple_add (PySem.F.args_tuple_add_2 _ _)
   (tuple_addW0 a b ([]:List Value).toArray its2.toArray n n2 dd dd2 sl sl2 (by simp)) ⟨ho,ho2,⟨.ref b,H,I,rfl,q b H (Same.refl H) hb⟩⟩
 ·refine op_catT pins s σ H (.ref a) (.ref b) v u Q I rx ry ⟨a,b,xs,ys,rfl,rfl,SqT.of ha,SqT.of hb,hx,hz,fun e=>?_,fun _ p hp=>q p _ (same_new hp _) upd_same⟩
  subst e
  exact q a H (Same.refl H) (by rw [List.append_nil]; exact ha)
theorem cutV_whole (xs:List V) (lo hi:Option Int) (h:HT.sIx xs.length 0 lo=0∧HT.sIx xs.length xs.length hi=xs.length):cutV xs lo hi=xs:=by
 unfold cutV
 rw [h.1,h.2,List.drop_zero,Nat.sub_zero,List.take_length]
theorem getItem_tuple_whole {prog:Program}{w:World}{A:Around}{E:Value→Shared→Prop}{s:Shared}{t sl:Addr}{items:Array Value}{vl vu:Value}{lo hi:Option Int}{Q:Value→Shared→Prop} (ht:IsTup s.heap t items) (hs:s.heap.IsSliceOf sl vl vu .none) (pl:IsPart vl lo) (pu:IsPart vu hi)
  (hw:HT.sIx items.size 0 lo=0∧HT.sIx items.size items.size hi=items.size)
  (h:Q (.ref t) s):wpAny (model prog w) A (getItem (.ref t) (.ref sl)) Q E s:=by
 obtain ⟨os,hos,hcs,hds⟩:=id hs
 have hTs:s.TypeIs (.ref sl) "slice":=⟨os,hos,hcs⟩
 unfold getItem
 try with_reducible refine wpAny_holding ?_
 first | refine wpAny_bind (wpAny_pure ?_) | skip
 refine wpAny_bind (wpAny_sequenceKey ht.typeIs (by decide) ?_)
 refine wpAny_bind (wpAny_callSpecial?_slot (name:=Str.ofString "__getitem__") ht.typeIs PyProof.Rows.slot_tuple_getitem
  (wpAny_call_entry PyProof.Rows.slot_tuple_getitem ht.typeIs entry_tuple_getitem ?_ (args_tuple_getitem _ _)))
 show wpAny _ _ (Builtin.Tuple.tupleItemsOf (.ref t) >>= _) _ _ s
 refine wpAny_bind (tupleItemsOf_ ht ?_)
 refine wpAny_bind (wpAny_typeOf hTs ?_)
 rw [if_pos (by decide)]
 refine wpAny_bind (HT.sliceApplied_gen hs pl pu ?_)
 have hyes:(((HT.sIx items.size 0 lo:Nat):Int) == 0&&(1:Int) == 1&&(HT.sIx items.size items.size hi - HT.sIx items.size 0 lo) == items.size)=true:=by
  rw [hw.1,hw.2]
  simp
 show wpAny _ _ (if (((HT.sIx items.size 0 lo:Nat):Int) == 0&&(1:Int) == 1&&(HT.sIx items.size items.size hi - HT.sIx items.size 0 lo) == items.size)=true then _ else _) _ _ s
 rw [if_pos hyes]
 have hEx:Builtin.Tuple.tupleIsExact (Value.ref t)=(typeOf (Value.ref t) >>= fun c=>pure (c == .type "tuple")):=rfl
 rw [hEx]
 refine wpAny_bind (wpAny_bind (wpAny_typeOf ht.typeIs (wpAny_pure ?_)))
 rw [if_pos (by decide)]
 exact wpAny_bind (wpAny_rule (wpAny_pure ⟨_,rfl,wpAny_pure h⟩))
noncomputable def rSlT2 (K:W.Frag):V→Option Int→Option Int→Hp→VK→Prop:=fun x lo hi H Q=>∃ a xs,x=.ref a∧H a=some (.tup xs)∧∀ p H1,Same H H1→H1 p=some (.tup (cutV xs lo hi))→Q (.ref p) H1
theorem sl_tup2:SlR X (rSlT2 X.K):=by
 intro pins s σ H x v vl vu lo hi sl Q I rx hs pl pu h
 obtain ⟨a,xs,rfl,hx,q⟩:=h
 by_cases hw:HT.sIx xs.length 0 lo=0∧HT.sIx xs.length xs.length hi=xs.length
 ·cases rx
  obtain ⟨its,r,ht,hz⟩:=I.tuple (SqT.of hx)
  have hlen:its.toArray.size=xs.length:=by rw [List.size_toArray]; exact r.length.symm
  refine ⟨"tuple",_,PyProof.Rows.slot_tuple_getitem.lookup,ht.typeIs,?_⟩
  exact getItem_tuple_whole ht hs pl pu (by rw [hlen]; exact hw) ⟨.ref a,H,I,rfl,q a H (Same.refl H) (by rw [cutV_whole xs lo hi hw]; exact hx)⟩
 ·exact sl_tup pins s σ H (.ref a) v vl vu lo hi sl Q I rx hs pl pu ⟨a,xs,rfl,SqT.of hx,hw,fun p hp=>q p _ (same_new hp _) upd_same⟩
end
structure Callee (P:Program) (w:World) (K:W.Frag) (mg:Str→Option Value) (base:Heap) (x:Str) (ps:List Str) (k:Nat) (sp:Sp):Prop where
 ex:∃ f fd,FnOk P w K mg base CX0 k f fd ps sp∧Binds K fd ps []∧W.keepIn K (.ref f)=true∧mg x=some (.ref f)
section
variable {X:Cx}{a b c d:Expr}{ta tb tc td:TE}{pos:Pos}
theorem pe_callC {x:Str}{ps:List Str}{k k':Nat}{sp:Sp}{e:Expr}{es:List Expr}{t:TA}{p:Pos} (C:Callee X.prog X.w X.K X.mg X.base x ps k sp) (hr:Room k' X.A) (hg:Gl X x) (ha:PA X (e::es) t) (hk:k≤k':=by decide) (hdb:(x == ("__debug__":Str))=false:=by decide)
  (h1:starEach (e::es) X.env=(false,eval e X.env)::starEach es X.env:=by rfl) (h2:(backTo pos (starEach es X.env)).any (·.1)=false:=by rfl) :
  PE X (.Call (.Name x p) (e::es) [] pos) (tCall sp [] E0 t):=by
 obtain ⟨f,fd,F,hb,hkp,hm⟩:=C.ex
 exact pe_call (hdb:=hdb) (he:=h1) (hpl:=h2) F (hr.mono hk) hg hm hkp hb .nil pass0 ha
theorem pt_chain3 {op op' op2:CmpOp}{r r' r2:R2} (ho:OpR X (compareOp op) r) (ho':OpR X (compareOp op') r') (ho2:OpR X (compareOp op2) r2) (ha:PE X a ta) (hb:PE X b tb) (hc:PE X c tc) (hd:PE X d td)
  (hm:lastMarks [op,op',op2] [b,c,d]=false:=by with_unfolding_all rfl):PT X (.Compare a [op,op',op2] [b,c,d] pos) (fun σ H Q=>ta σ H fun x H1=>tb σ H1 fun y H2=>r x y H2 fun z H3=>∃ k,z=.bl k ∧
   (if k=true then tc σ H3 fun w' H4=>r' y w' H4 fun z2 H5=>∃ k2,z2=.bl k2∧(if k2=true then td σ H5 fun v' H6=>r2 w' v' H6 fun z3 H7=>∃ k3,z3=.bl k3∧Q k3 H7 else Q false H5) else Q false H3)):=by
 intro pins s σ H Q I h
 refine isTrue_chain (thn (ha pins s σ H _ I h) fun v s1 ⟨x,H1,I1,r1,q1⟩=>test_link (thn (hb pins s1 σ H1 _ I1 q1) fun u s2 ⟨y,H2,I2,r2,q2⟩ =>
  thn (ho pins s2 σ H2 x y v u _ I2 r1 r2 q2) fun d s3 ⟨z,H3,I3,r3,k,e,q3⟩=>?_)) hm
 subst e
 cases r3
 refine wpAny_truthy_bool ?_
 cases k with
 | false=>exact ite_ff ⟨H3,I3,q3⟩
 | true =>
  refine ite_tt (test_link (thn (hc pins s3 σ H3 _ I3 q3) fun w' s4 ⟨z',H4,I4,r4,q4⟩=>thn (ho' pins s4 σ H4 y z' u w' _ I4 r2 r4 q4) fun d' s5 ⟨z2,H5,I5,r5,k2,e2,q5⟩=>?_))
  subst e2
  cases r5
  refine wpAny_truthy_bool ?_
  cases k2 with
  | false=>exact ite_ff ⟨H5,I5,q5⟩
  | true =>
   refine ite_tt (test_last (thn (hd pins s5 σ H5 _ I5 q5) fun w2 s6 ⟨z6,H6,I6,r6,q6⟩=>thn (ho2 pins s6 σ H6 z' z6 w' w2 _ I6 r4 r6 q6) fun d2 s7 ⟨z7,H7,I7,r7,k3,e3,q7⟩=>?_))
   subst e3
   cases r7
   exact wpAny_truthy_bool ⟨H7,I7,q7⟩
end
def TK (K:W.Frag) (H H':Hp):Prop:=∀ p xs,SqT K H p xs→SqT K H' p xs
theorem TK.refl (K:W.Frag) (H:Hp):TK K H H:=fun _ _ h=>h
theorem TK.trans {K:W.Frag}{H H1 H2:Hp} (a:TK K H H1) (b:TK K H1 H2):TK K H H2:=fun p xs h=>b p xs (a p xs h)
theorem dT {p:Prop} [Decidable p] (h:p):decide p=true:=decide_eq_true h
theorem bt_len:bootBuiltins "len"=some (.builtin "len"):=by decide +kernel
theorem bt_range:bootBuiltins "range"=some (.type "range"):=by decide +kernel
theorem bt_list:bootBuiltins "list"=some (.type "list"):=by decide +kernel
theorem bt_tuple:bootBuiltins "tuple"=some (.type "tuple"):=by decide +kernel
theorem bt_min:bootBuiltins "min"=some (.builtin "min"):=by decide +kernel
theorem bt_max:bootBuiltins "max"=some (.builtin "max"):=by decide +kernel
theorem bt_zip:bootBuiltins "zip"=some (.type "zip"):=by decide +kernel
theorem bt_isinstance:bootBuiltins "isinstance"=some (.builtin "isinstance"):=by decide +kernel
theorem bt_all:bootBuiltins "all"=some (.builtin "all"):=by decide +kernel
theorem bt_any:bootBuiltins "any"=some (.builtin "any"):=by decide +kernel
theorem bt_int:bootBuiltins "int"=some (.type "int"):=by decide +kernel
theorem bt_bool:bootBuiltins "bool"=some (.type "bool"):=by decide +kernel
theorem bt_enumerate:bootBuiltins "enumerate"=some (.type "enumerate"):=by decide +kernel
theorem bt_str:bootBuiltins "str"=some (.type "str"):=by decide +kernel
structure C4 where
 a:Int
 b:Int
 k:Int
 o:Int
def C4.ok (sw pl:Int) (c:C4):Prop:=0≤c.a∧c.a<c.b∧c.b<pl∧0≤c.k∧c.k<sw∧0≤c.o∧c.o<2
structure NetOk (ms mp mc:Int) (sw pl:Int) (cs:List C4):Prop where
 s1:1≤sw
 s2:sw≤ms
 p1:2≤pl
 p2:pl≤mp
 c1:(cs.length:Int)≤mc
 c2:∀ c∈cs,c.ok sw pl
inductive Ty2 (K:W.Frag) (H:Hp):V→String→Prop where
 | non:Ty2 K H .non "NoneType"
 | bl (x:Bool):Ty2 K H (.bl x) "bool"
 | int (i:Int):Ty2 K H (.int i) "int"
 | str (x:Str):Ty2 K H (.str x) "str"
 | tup {a:Addr}{xs:List V} (e:SqT K H a xs):Ty2 K H (.ref a) "tuple"
 | lst {a:Addr}{xs:List V} (e:SqL K H a xs):Ty2 K H (.ref a) "list"
 | dk {a:Addr}{kvs:List (Key × V)} (e:H a=some (.dK kvs)):Ty2 K H (.ref a) "dict"
noncomputable def kOf (t T:String):Bool:=t == T||(t == "bool"&&T == "int")
section
variable {X:Cx}
theorem isinst2_ok {A:Around}{E:Value→Shared→Prop}{pins:List (Addr × Obj)}{σ:St}{H:Hp}{s:Shared}{Q:Value→Shared→Prop}{c:Value}{b:Bool}{x:V}{u:Value}{t:String} (I:Inv X pins σ H s) (rx:RelV x u) (ty:Ty2 X.K H x t) (e:W.kitOne X.K (.type t) c=some b) (h:∀ tk,Q (.bool b) { s with toks:=tk }) :
  wpAny (model X.prog X.w) A (call (.builtin "isinstance") [u,c]) Q E s:=by
 cases ty with
 | non=>cases (show u=Value.none from rx); exact W.kia_one W.kitx_none I.kIn True.intro e (fun z=>nomatch z) h
 | bl y=>cases (show u=Value.bool y from rx); exact W.kia_one W.kitx_bool I.kIn True.intro e (fun z=>nomatch z) h
 | int i=>obtain ⟨t,q⟩:=(show ∃ t,u=Value.int i t from rx); cases q; exact W.kia_one W.kitx_int I.kIn True.intro e (fun z=>nomatch z) h
 | str y=>obtain ⟨t,q⟩:=(show ∃ t,u=Value.str y t from rx); cases q; exact W.kia_one W.kitx_str I.kIn True.intro e (fun z=>nomatch z) h
 | @lst a xs ea =>
  cases (show u=Value.ref a from rx)
  obtain ⟨its,_,pl,_⟩:=I.list ea
  obtain ⟨o,h1,h2,_⟩:=pl.isList
  exact W.kia_one W.kitx_list I.kIn ⟨o,h1,h2⟩ e (fun z=>nomatch z) h
 | @tup a xs ea =>
  cases (show u=Value.ref a from rx)
  obtain ⟨its,_,pl,_⟩:=I.tuple ea
  obtain ⟨o,h1,h2,_⟩:=pl
  exact W.kia_one W.kitx_tuple I.kIn ⟨o,h1,h2⟩ e (fun z=>nomatch z) h
 | @dk a kvs ea =>
  cases (show u=Value.ref a from rx)
  obtain ⟨_,_,vs,_,p⟩:=(show ObjOk X.prog X.w H s.heap a (.dK kvs) from I.hok a _ ea)
  obtain ⟨o,es,ep,h1,h2,_⟩:=p
  exact W.kia_one W.kitx_dict I.kIn ⟨o,h1,h2.1⟩ e (fun z=>nomatch z) h
theorem call_isinst2:CallR X (.builtin "isinstance") (fun vs H Q=>∃ x t T b,vs=[x,.ty T]∧Ty2 X.K H x t∧W.kitOne X.K (.type t) (.type T)=some b∧Q (.bl b) H):=by
 intro pins s σ H xs us Q I r h
 obtain ⟨x,t,T,b,rfl,ty,e,q⟩:=h
 obtain ⟨u,v,rfl,ru,rv⟩:=vals2 r
 cases rv
 exact isinst2_ok I ru ty e fun tk=>⟨.bl b,H,I.tok tk,rfl,q⟩
end
theorem kit_all2 (K:W.Frag):(∀ t∈["NoneType","bool","int","str","tuple","list","dict"],∀ T∈["bool","int","tuple","list","str","dict"],W.kitOne K (.type t) (.type T)=some (kOf t T)):=by
 intro t ht T hT
 simp only [List.mem_cons,List.not_mem_nil,or_false] at ht hT
 rcases ht with rfl | rfl | rfl | rfl | rfl | rfl | rfl <;> rcases hT with rfl | rfl | rfl | rfl | rfl | rfl <;> rfl
mutual
inductive Rp (K:W.Frag) (H:Hp) (a0:Addr→Prop):V→PyData→Prop where
 | non:Rp K H a0 .non .none
 | bl (b:Bool):Rp K H a0 (.bl b) (.bool b)
 | int (i:Int):Rp K H a0 (.int i) (.int i)
 | str (x:Str):Rp K H a0 (.str x) (.str x)
 | tup {p:Addr}{xs:List V}{ds:List PyData} (h:SqT K H p xs) (r:RpL K H a0 xs ds):Rp K H a0 (.ref p) (.tuple ds)
 | lst {p:Addr}{xs:List V}{ds:List PyData} (n:a0 p) (h:SqL K H p xs) (r:RpL K H a0 xs ds):Rp K H a0 (.ref p) (.list ds)
inductive RpL (K:W.Frag) (H:Hp) (a0:Addr→Prop):List V→List PyData→Prop where
 | nil:RpL K H a0 [] []
 | cons {x:V}{xs:List V}{d:PyData}{ds:List PyData} (h:Rp K H a0 x d) (t:RpL K H a0 xs ds):RpL K H a0 (x::xs) (d::ds)
end
noncomputable def C4.d (c:C4):PyData:=.tuple [.int c.a,.int c.b,.int c.k,.int c.o]
open PySem PySem.Spec PyProof.Rows
section
variable {prog:Program}{w:World}{A:Around}{E:Value→Shared→Prop}{s:Shared}
theorem tupNext_item {j t:Addr}{n:Nat}{vs:Array Value}{v:Value}{Q:Value→Shared→Prop} (hj:s.heap.IsTupleIter j t n) (ht:s.heap.IsTuple t vs) (hv:vs[n]?=some v)
  (q:∀ h',h'.IsTupleIter j t (n+1)→Heap.SameBut j s.heap h'→Q v { s with heap:=h' }):wpAny (model prog w) A (Builtin.SmallTypes.nextOf (.ref j)) Q E s:=by
 obtain ⟨oj,e1,c1,d1⟩:=id hj
 obtain ⟨ot,e2,_,m,d2⟩:=ht
 unfold Builtin.SmallTypes.nextOf
 refine wpAny_bind (wpAny_callSpecial?_slot (name:=Str.ofString "__next__") hj.typeIs F.slot_tuple_iterator_next (wpAny_call_entry F.slot_tuple_iterator_next hj.typeIs F.entry_tuple_iterator_next ?_ (F.args_tuple_iterator_next_1 _)))
 show wpAny _ _ (field (.ref j) 0 >>= _) _ _ s
 refine wpAny_bind (wpAny_field e1 d1 (x:=.ref t) rfl ?_)
 show wpAny _ _ (if (Value.ref t == Value.none)=true then _ else _) _ _ s
 rw [if_neg (show ¬ ((Value.ref t == Value.none)=true) from fun z=>Bool.false_ne_true z)]
 show wpAny _ _ (field (.ref j) 1 >>= _) _ _ s
 refine wpAny_bind (wpAny_field e1 d1 (x:=.int n 0) rfl ?_)
 show wpAny _ _ (seqItems? (.ref t) >>= _) _ _ s
 refine wpAny_bind (wpAny_seqItems e2 d2 ?_)
 simp only [hv,Int.toNat_natCast]
 refine wpAny_bind (wpAny_setField e1 d1 (by simp) (wpAny_pure ⟨v,rfl,wpAny_pure (q _ ?_ (Heap.SameBut.update ..))⟩))
 refine ⟨_,Heap.get?_update_self _ e1 (Obj.isFreed_of_fields (Obj.data_mapFields d1 _)),(Obj.cls_mapFields ..).trans c1,?_⟩
 rw [Obj.data_mapFields d1]
 simp [rawInt]
theorem tupNext_end {j t:Addr}{n:Nat}{vs:Array Value}{Q:Value→Shared→Prop} (hh:A.handled=none) (hj:s.heap.IsTupleIter j t n) (ht:s.heap.IsTuple t vs) (hv:vs[n]?=none)
  (q:∀ h' e,Heap.ExtBut j s.heap h'→(∃ o,h'.get? e=some o∧o.cls=.type "StopIteration")→E (.ref e) { s with heap:=h' }):wpAny (model prog w) A (Builtin.SmallTypes.nextOf (.ref j)) Q E s:=by
 obtain ⟨oj,e1,c1,d1⟩:=id hj
 obtain ⟨ot,e2,_,m,d2⟩:=ht
 unfold Builtin.SmallTypes.nextOf
 refine wpAny_bind (wpAny_callSpecial?_slot (name:=Str.ofString "__next__") hj.typeIs F.slot_tuple_iterator_next (wpAny_call_entry F.slot_tuple_iterator_next hj.typeIs F.entry_tuple_iterator_next ?_ (F.args_tuple_iterator_next_1 _)))
 show wpAny _ _ (field (.ref j) 0 >>= _) _ _ s
 refine wpAny_bind (wpAny_field e1 d1 (x:=.ref t) rfl ?_)
 show wpAny _ _ (if (Value.ref t == Value.none)=true then _ else _) _ _ s
 rw [if_neg (show ¬ ((Value.ref t == Value.none)=true) from fun z=>Bool.false_ne_true z)]
 show wpAny _ _ (field (.ref j) 1 >>= _) _ _ s
 refine wpAny_bind (wpAny_field e1 d1 (x:=.int n 0) rfl ?_)
 show wpAny _ _ (seqItems? (.ref t) >>= _) _ _ s
 refine wpAny_bind (wpAny_seqItems e2 d2 ?_)
 simp only [hv,Int.toNat_natCast]
 refine wpAny_bind (wpAny_rule (wpAny_bind (wpAny_setField e1 d1 (by simp) ?_)))
 refine wpAny_bind (m:=newExc (.type "StopIteration") []) ?_
 simp only [newTuple,newExc]
 refine wpAny_bind (wpAny_newObj_type ?_ (by size_fits))
 refine wpAny_bind (m:=firstArgMember _ _) (wpAny_of_eq (a:=Value.none) (by first | (simp only [firstArgMember]; rfl) | rfl) ?_)
 refine wpAny_newObj_type ?_ (by size_fits)
 simp only [raiseNew]
 refine wpAny_bind (wpAny_handled ?_)
 first | rw [hh] | rw [show A.in1.handled=none from hh]
 refine wpAny_bind (wpAny_pure (wpAny_throw ?_))
 exact q _ _ (((Heap.SameBut.update ..).extBut.push _).push _) ⟨_,Heap.get?_push_size _ rfl,rfl⟩
end
theorem drawsTuple {prog:Program}{w:World}{A:Around} (hh:A.handled=none) (j t:Addr) (hne:t≠j) (vs:Array Value) :
  Draws prog w A j [j,t] vs.size (fun i v=>vs[i]?=some v) (fun i h=>h.IsTupleIter j t i∧h.IsTuple t vs) where
 live:=fun _ _ st=>let ⟨o,ho,_⟩:=st.1; ⟨o,ho⟩
 frame:=fun _ _ _ st kk=>⟨st.1.at fun o e=>kk j (by simp) o e,let ⟨o,ho,r⟩:=st.2; ⟨o,kk t (by simp) o ho,r⟩⟩
 item:=fun i s Q E hi st hQ=>tupNext_item st.1 st.2 (v:=vs[i]) (by simp [hi]) fun h' h1 h2=>hQ _ h' s.toks (by simp [hi]) ⟨h1,st.2.extBut h2.extBut hne⟩ h2
 done:=fun s Q E st hE=>tupNext_end hh st.1 st.2 (by simp) hE
theorem enumNewT (l:Addr) (items:Array Value) (n:Nat) (dct:Option Addr) (sl:Array (Option Value)) :
  Meets (Builtin.«enumerate.__new__» ⟨[.type "enumerate",.ref l],[]⟩) (fun _ R s=>s.heap.get? l=some { cls:=.type "tuple",dict:=dct,data:=.seq items n,slots:=sl } ∧
   R (.ok (.ret (.ref (s.heap.push { cls:=.type "tuple_iterator",data:=.fields #[.ref l,.int 0 0] }).objs.size)))
    { s with heap:=(s.heap.push { cls:=.type "tuple_iterator",data:=.fields #[.ref l,.int 0 0] }).push { cls:=.type "enumerate",data:=.fields #[.none,.bool false,.ref s.heap.objs.size,rawInt 0,.none,.none] } }) :=
 .of_wp fun prog w A R s h=>by
  obtain ⟨hp,g,d,tk,os⟩:=s; obtain ⟨hl,h⟩:=h
  have hsub:=sub_enumerate
  have hT:Heap.IsTuple (Shared.heap ⟨hp,g,d,tk,os⟩) l items:=⟨_,hl,rfl,n,rfl⟩
  wp_walk using AutoSeq1.wpAny_loadPart' hl
  refine wpAny_stack_any fun st=>wpAny_pure ?_
  split
  ·rename_i c _ _ _ _ _
   cases (c == Value.type "enumerate") <;> (wp_walk using AutoSeq1.wpAny_loadPart' hl,wpAny_pyIter_tuple hT; exact ⟨_,rfl,h⟩)
  ·wp_walk using AutoSeq1.wpAny_loadPart' hl,wpAny_pyIter_tuple hT
   exact ⟨_,rfl,h⟩
open PySem PySem.Spec PyProof.Rows
section
variable {X:Cx}{pins:List (Addr × Obj)}{σ:St}{H:Hp}{s:Shared}
mutual
theorem Inv.reads (I:Inv X pins σ H s) {a0:Addr→Prop}:∀ {x:V}{d:PyData}{u:Value},Rp X.K H a0 x d→RelV x u→∃ as,Reads s.heap u d as
 | _,_,u,.non,r=>by cases (show u=Value.none from r); exact ⟨_,.none⟩
 | _,_,u,.bl b,r=>by cases (show u=Value.bool b from r); exact ⟨_,.bool b⟩
 | _,_,u,.int i,r=>by obtain ⟨t,q⟩:=(show ∃ t,u=Value.int i t from r); cases q; exact ⟨_,.int i t⟩
 | _,_,u,.str y,r=>by obtain ⟨t,q⟩:=(show ∃ t,u=Value.str y t from r); cases q; exact ⟨_,.str y t⟩
 | _,_,u,.tup (p:=p) h rr,r=>by
  cases (show u=Value.ref p from r)
  obtain ⟨its,rv,⟨o,h1,h2,n,h3⟩,_⟩:=I.tuple h
  obtain ⟨as,ra⟩:=I.readsL rr rv
  exact ⟨_,.tuple h1 h2 h3 (by simpa using ra)⟩
 | _,_,u,.lst (p:=p) _ h rr,r=>by
  cases (show u=Value.ref p from r)
  obtain ⟨its,rv,pl,_⟩:=I.list h
  obtain ⟨o,h1,h2,n,h3⟩:=pl.isList
  obtain ⟨as,ra⟩:=I.readsL rr rv
  exact ⟨_,.list h1 h2 h3 (by simpa using ra)⟩
theorem Inv.readsL (I:Inv X pins σ H s) {a0:Addr→Prop}:∀ {xs:List V}{ds:List PyData}{us:List Value},RpL X.K H a0 xs ds→Vals xs us→∃ as,ReadsAll s.heap us ds as
 | _,_,_,.nil,.nil=>⟨_,.nil⟩
 | _,_,_,.cons h t,.cons r rr=>by
  obtain ⟨a1,q1⟩:=I.reads h r
  obtain ⟨a2,q2⟩:=I.readsL t rr
  exact ⟨_,.cons q1 q2⟩
end
def okD (d:PyData):Prop:=d.canLay0=true∧d.depth≤60
theorem op_eqD (hu:X.A.units+64<cLine):OpR X (compareOp .Eq) (fun x y H Q=>∃ (N N':Addr→Prop) (da db:PyData),Rp X.K H N x da∧Rp X.K H N' y db∧okD da∧okD db∧Q (.bl (PyData.eqv da db)) H):=by
 intro pins s σ H x y v u Q I rx ry h
 obtain ⟨N,N',da,db,hx,hy,o1,o2,q⟩:=h
 obtain ⟨as,ra⟩:=I.reads hx rx
 obtain ⟨bs,rb⟩:=I.reads hy ry
 exact SeqAt.compareEq_reads ra rb o1.1 o2.1 (by have:=o1.2; omega) ⟨.bl _,H,I,rfl,q⟩
theorem op_neD (hu:X.A.units+64<cLine):OpR X (compareOp .NotEq) (fun x y H Q=>∃ (N N':Addr→Prop) (da db:PyData),Rp X.K H N x da∧Rp X.K H N' y db∧okD da∧okD db∧Q (.bl (!PyData.eqv da db)) H):=by
 intro pins s σ H x y v u Q I rx ry h
 obtain ⟨N,N',da,db,hx,hy,o1,o2,q⟩:=h
 obtain ⟨as,ra⟩:=I.reads hx rx
 obtain ⟨bs,rb⟩:=I.reads hy ry
 exact SeqAt.compareNe_reads ra rb o1.1 o2.1 (by have:=o1.2; omega) ⟨.bl _,H,I,rfl,q⟩
end
open PySem PySem.Spec PyProof.Rows
def SqX (b:Bool) (K:W.Frag) (H:Hp) (a:Addr) (xs:List V):Prop:=match b with
 | true=>SqT K H a xs
 | false=>SqL K H a xs
def IsX (b:Bool) (h:Heap) (a:Addr) (vs:Array Value):Prop:=match b with
 | true=>h.IsTuple a vs
 | false=>h.IsList a vs
def ItX (b:Bool) (h:Heap) (j a:Addr) (i:Nat):Prop:=match b with
 | true=>h.IsTupleIter j a i
 | false=>h.IsListIter j a i
theorem ItX.obj {b:Bool}{h:Heap}{j a:Addr}{i:Nat} (x:ItX b h j a i):∃ o,h.get? j=some o∧∀ v,o.data≠.cell v:=by
 cases b with
 | true=>obtain ⟨o,h1,_,h2⟩:=(x:h.IsTupleIter j a i); exact ⟨o,h1,fun v q=>by rw [h2] at q; cases q⟩
 | false=>obtain ⟨o,h1,_,h2⟩:=(x:h.IsListIter j a i); exact ⟨o,h1,fun v q=>by rw [h2] at q; cases q⟩
theorem ItX.keep {b:Bool}{h h':Heap}{j a:Addr}{i:Nat} (x:ItX b h j a i) (e:∀ o,h.get? j=some o→h'.get? j=some o):ItX b h' j a i:=by
 cases b with
 | true=>exact Heap.IsTupleIter.at x e
 | false=>exact Heap.IsListIter.at x e
theorem IsX.lt {b:Bool}{h:Heap}{a:Addr}{vs:Array Value} (x:IsX b h a vs):a<h.objs.size:=by
 cases b with
 | true=>obtain ⟨_,e,_⟩:=(x:h.IsTuple a vs); exact Heap.lt_size e
 | false=>obtain ⟨_,e,_⟩:=(x:h.IsList a vs); exact Heap.lt_size e
theorem drawsX {prog:Program}{w:World}{A:Around} (b:Bool) (hh:A.handled=none) (j t:Addr) (hne:t≠j) (vs:Array Value) :
  Draws prog w A j [j,t] vs.size (fun i v=>vs[i]?=some v) (fun i h=>ItX b h j t i∧IsX b h t vs):=by
 cases b with
 | true=>exact drawsTuple hh j t hne vs
 | false=>exact Draws.list hh j t hne vs
section
variable {X:Cx}{pins:List (Addr × Obj)}{σ:St}{H:Hp}{s:Shared}
theorem Inv.sqX (I:Inv X pins σ H s) {b:Bool}{a:Addr}{xs:List V} (h:SqX b X.K H a xs):∃ its,Vals xs its∧IsX b s.heap a its.toArray:=by
 cases b with
 | true=>obtain ⟨its,r,p,_⟩:=I.tuple h; exact ⟨its,r,p⟩
 | false=>obtain ⟨its,r,p,_⟩:=I.list h; exact ⟨its,r,p.isList⟩
theorem Inv.sqX_inj (I:Inv X pins σ H s) {b:Bool}{a:Addr}{xs ys:List V} (h:SqX b X.K H a xs) (h':SqX b X.K H a ys):xs=ys:=by
 cases b with
 | true=>exact I.tuple_inj h h'
 | false=>exact I.list_inj h h'
end
noncomputable def IteX (b:Bool) (K:W.Frag) (a:Addr):It :=
  ⟨fun i H=>∃ xs x,SqX b K H a xs∧xs[i]?=some x,
   fun i H v H'=>∃ T,H T=none∧v=.ref T∧∀ xs x,SqX b K H a xs→xs[i]?=some x→H'=upd H T (.tup [.int i,x]),
   fun i H=>∃ xs,SqX b K H a xs∧i=xs.length⟩
theorem allN {P:Addr→Prop}:∀ x∈([]:List Addr),P x:=fun _ h=>by cases h
theorem allC {P:Addr→Prop}{a:Addr}{l:List Addr} (h:P a) (t:∀ x∈l,P x):∀ x∈a::l,P x:=fun x hx=>(List.mem_cons.mp hx).elim (fun e=>e▸h) (t x)
theorem fp_upd {X:Cx}{pins:List (Addr × Obj)}{H:Hp}{T:Addr}{o:HO}{ws:List Addr} (h:∀ b∈ws,FpOk X pins H b) (n:∀ b∈ws,b≠T):∀ b∈ws,FpOk X pins (upd H T o) b:=fun b hb=>⟨by rw [upd_ne (n b hb)]; exact (h b hb).1,(h b hb).2⟩
structure EsX (b:Bool) (e it a:Addr) (i:Nat) (h:Heap):Prop where
 a1:∃ old,IsEnum h e it (i:Nat) old
 a2:ItX b h it a i
theorem EsX.obj {b:Bool}{e it a:Addr}{i:Nat}{h:Heap} (st:EsX b e it a i h):∀ c∈[e,it],∃ o,h.get? c=some o∧∀ v,o.data≠.cell v:=by
 obtain ⟨_,a1⟩:=st.a1
 exact allC ⟨_,a1,fun v q=>by cases q⟩ (allC st.a2.obj allN)
theorem EsX.ne {b:Bool}{e it a:Addr}{i:Nat}{h:Heap} (st:EsX b e it a i h) {T:Addr} (hT:h.objs.size≤T):∀ c∈[e,it],c≠T:=fun c hc=>by
 obtain ⟨o,z,_⟩:=st.obj c hc
 exact Nat.ne_of_lt (Nat.lt_of_lt_of_le (Heap.lt_size z) hT)
theorem zyE {b:Bool}{a:Addr}{i:Nat}{X:Cx}{pins:List (Addr × Obj)}{σ:St}{H:Hp}{s:Shared} (I:Inv X pins σ H s) {xs:List V}{x:V} (q1:SqX b X.K H a xs) (ex:xs[i]?=some x) {T:Addr} (xs':List V) (x':V) (s1:SqX b X.K H a xs') (t1:xs'[i]?=some x'):upd H T (.tup [.int i,x])=upd H T (.tup [.int i,x']):=by
 have h1:=I.sqX_inj q1 s1
 subst h1
 rw [ex] at t1
 cases t1; rfl
theorem zvE {t1:List Value}{u1:Value}{i:Nat}{vals:Array Value} (e1:t1[i]?=some u1) (hv:∃ tt v,t1.toArray[i]?=some v∧vals=#[.int (i:Nat) tt,v]):∃ tt,vals=#[.int (i:Nat) tt,u1]:=by
 obtain ⟨tt,v,g,rfl⟩:=hv
 rw [List.getElem?_toArray,e1] at g
 cases g; exact ⟨tt,rfl⟩
theorem turn_enumX {P:Program}{w:World}{K:PySem.W.Frag}{elts:List Expr}{k:Nat}{pos:Pos} (b:Bool) (e it a:Addr) (hei:e≠it) (hea:e≠a) (hai:a≠it) :
  Turn P w K (.Tuple elts k pos) (IteX b K a) [e,it] e (EsX b e it a) where
 mem:=by simp
 obj:=fun i h st=>st.obj
 keep:=fun i h h' ⟨⟨old,h1⟩,h2⟩ kk=>⟨⟨old,kk e (by simp) _ h1⟩,h2.keep fun o z=>kk it (by simp) o z⟩
 item:=by
  intro X hP hw hK hc i pins s σ H E I hf st hg
  subst hP hw hK
  obtain ⟨xs,x,q1,ex⟩:=hg
  obtain ⟨its1,r1,p1⟩:=I.sqX q1
  obtain ⟨u1,e1,ru1⟩:=r1.get ex
  have D:=drawsX (prog:=X.prog) (w:=X.w) (A:=X.A.in1) b (show X.A.in1.handled=none from I.ok.hd hc) it a hai its1.toArray
  have W:=WalksT.enumerateD (A:=X.A) D e hei (by simp [hei,hea]) (by simp)
  have hl1:i<its1.length:=(List.getElem?_eq_some_iff.mp e1).1
  refine W.item i s _ _ (by simp only [List.size_toArray]; omega) ⟨st.1,st.2,p1⟩ fun T vals h' tk hv hT hIs hM kk=>?_
  obtain ⟨tt,hvv⟩:=zvE e1 hv
  subst hvv
  have nT:=st.ne hT
  refine ⟨_,rfl,W.go _ _ _ i T { s with heap:=h',toks:=tk } _ _ hM fun h2 st2 kk2=>?_⟩
  have I1:Inv X pins σ (upd H T (.tup [.int i,x])) { s with heap:=h',toks:=tk }:=I.yields (its:=[.int i tt,u1]) hf kk hT (.cons ⟨tt,rfl⟩ (.cons ru1 .nil)) (by show 2≤sizeLine; decide) hIs
  exact ⟨.ref T,_,I1.turnedL (tk:=tk) (fp_upd hf nT) kk2,rfl,⟨T,I.hok.fresh hT,rfl,zyE I q1 ex⟩,⟨st2.1,st2.2.1⟩,fun c hc=>by rw [upd_ne (nT c hc)]; exact (hf c hc).1⟩
 done:=by
  intro X hP hw hK hc i pins s σ H E I hf st hg
  subst hP hw hK
  obtain ⟨xs,q1,ei⟩:=hg
  obtain ⟨its1,r1,p1⟩:=I.sqX q1
  have D:=drawsX (prog:=X.prog) (w:=X.w) (A:=X.A.in1) b (show X.A.in1.handled=none from I.ok.hd hc) it a hai its1.toArray
  have W:=WalksT.enumerateD (A:=X.A) D e hei (by simp [hei,hea]) (by simp)
  have en:i=its1.toArray.size:=by rw [List.size_toArray,← r1.length]; exact ei
  refine W.done s _ _ (by rw [← en]; exact ⟨st.1,st.2,p1⟩) fun h' tk kk=>?_
  exact ⟨rfl,I.turnedL hf kk⟩
 self:=fun _ _ _ _ _ st h=>let ⟨⟨_,z⟩,_⟩:=st; wpAny_pyIter_enum z h
section
variable {X:Cx}
noncomputable def iEnumL (K:W.Frag) (ta:TA):TI:=fun σ H R=>ta σ H fun vs H1=>∃ a,vs=[.ref a]∧((∃ xs,SqT K H1 a xs)∧R (IteX true K a) H1∨(∃ xs,SqL K H1 a xs)∧R (IteX false K a) H1)
theorem pi_enumL {elts:List Expr}{k:Nat}{tpos:Pos}{a:Expr}{ta:TA}{p pos:Pos} (hg:Gl X "enumerate") (hm:X.mg "enumerate"=none) (ha:PA X [a] ta) (hs:starEach [a] X.env=[(false,eval a X.env)]:=by rfl) :
  PI X (.Tuple elts k tpos) (.Call (.Name "enumerate" p) [a] [] pos) (iEnumL X.K ta):=by
 intro pins s σ H R I h
 refine Call_ (ld_blt I hg hm bt_enumerate (PyProof.Rows.callWith_type1 (thn (ha pos pins s σ H _ I h) fun us s1 ⟨vs,H1,I1,r1,q1⟩=>?_) (by rw [hs]; rfl) (by rfl)))
 obtain ⟨t,e,q⟩:=q1
 subst e
 rcases q with ⟨⟨xs,h1⟩,q⟩ | ⟨⟨xs,h1⟩,q⟩
 ·cases r1 with
  | cons r rr =>
   cases rr
   cases r
   obtain ⟨its1,v1,p1,z1⟩:=I1.tuple h1
   obtain ⟨⟨c,dct,dt,sl⟩,hl,hc,n,hd⟩:=id p1
   replace hc:c=.type "tuple":=hc
   replace hd:dt=.seq its1.toArray n:=hd
   subst hc hd
   have hlt:t<s1.heap.objs.size:=Heap.lt_size hl
   refine callType_new PySem.F.called_enumerate (by decide) (PySem.F.typeCall_enumerate_1 _) (PySem.F.newCall_enumerate_1 _) (fun obj=>PySem.F.args_object_init_2 obj _) PySem.F.entry_enumerate_new (enumNewT t its1.toArray n dct sl) ⟨hl,?_⟩
   have hz:(s1.heap.push { cls:=.type "tuple_iterator",data:=.fields #[.ref t,.int 0 0] }).objs.size=s1.heap.objs.size+1:=Heap.size_push ..
   show _∧_
   rw [hz]
   have he:IsEnum ((s1.heap.push { cls:=.type "tuple_iterator",data:=.fields #[.ref t,.int 0 0] }).push { cls:=.type "enumerate",data:=.fields #[.none,.bool false,.ref s1.heap.objs.size,rawInt 0,.none,.none] }) (s1.heap.objs.size+1) s1.heap.objs.size 0 .none:=by
    have z:=Heap.get?_push_size (s1.heap.push { cls:=.type "tuple_iterator",data:=.fields #[.ref t,.int 0 0] }) (o:={ cls:=.type "enumerate",data:=.fields #[.none,.bool false,.ref s1.heap.objs.size,rawInt 0,.none,.none] }) rfl
    rw [hz] at z
    exact z
   refine ⟨⟨_,he,rfl⟩,?_⟩
   refine wpAny_pyIter_enum he ?_
   have kp:∀ b o,s1.heap.get? b=some o→((s1.heap.push { cls:=.type "tuple_iterator",data:=.fields #[.ref t,.int 0 0] }).push { cls:=.type "enumerate",data:=.fields #[.none,.bool false,.ref s1.heap.objs.size,rawInt 0,.none,.none] }).get? b=some o:=fun b o x=>Heap.get?_push_of_some _ (Heap.get?_push_of_some _ x)
   refine ⟨_,_,_,_,H1,rfl,I1.kept (t':=s1.toks) kp,turn_enumX true (s1.heap.objs.size+1) s1.heap.objs.size t (Nat.succ_ne_self _) (Nat.ne_of_gt (Nat.lt_succ_of_lt hlt)) (Nat.ne_of_lt hlt),⟨⟨_,he⟩,⟨_,Heap.get?_push_of_some _ (Heap.get?_push_size _ rfl),rfl,rfl⟩⟩,fun b hb=>?_,q⟩
   have hle:s1.heap.objs.size≤b:=by
    simp only [List.mem_cons,List.not_mem_nil,or_false] at hb
    rcases hb with rfl | rfl
    ·exact Nat.le_succ _
    ·exact Nat.le_refl _
   exact I1.fpOk hle (I1.hok.fresh hle)
 ·cases r1 with
  | cons r rr =>
   cases rr
   cases r
   obtain ⟨its1,v1,p1,z1⟩:=I1.list h1
   have hlt:t<s1.heap.objs.size:=by obtain ⟨_,e,_⟩:=p1.isList; exact Heap.lt_size e
   refine call_enumerate_list p1.isList fun h' he hi hsz hk=>?_
   refine wpAny_pyIter_enum he ?_
   refine ⟨_,_,_,_,H1,rfl,I1.kept (t':=s1.toks) hk,turn_enumX false (s1.heap.objs.size+1) s1.heap.objs.size t (Nat.succ_ne_self _) (Nat.ne_of_gt (Nat.lt_succ_of_lt hlt)) (Nat.ne_of_lt hlt),⟨⟨_,he⟩,hi⟩,fun b hb=>?_,q⟩
   have hle:s1.heap.objs.size≤b:=by
    simp only [List.mem_cons,List.not_mem_nil,or_false] at hb
    rcases hb with rfl | rfl
    ·exact Nat.le_succ _
    ·exact Nat.le_refl _
   exact I1.fpOk hle (I1.hok.fresh hle)
end
open PySem PySem.Spec PyProof.Rows
structure ZAp (z TI TO i1 i2:Addr) (f1 f2:List Addr):Prop where
 TIz:TI≠z
 TOz:TO≠z
 i1z:i1≠z
 i2z:i2≠z
 TITO:TI≠TO
 TIi1:TI≠i1
 TIi2:TI≠i2
 TOi1:TO≠i1
 TOi2:TO≠i2
 i12:i1≠i2
 z1:z∉f1
 z2:z∉f2
 O1:TO∉f1
 O2:TO∉f2
 j1:i2∉f1
 j2:i1∉f2
section
variable {prog:Program}{w:World}{A:Around}{E:Value→Shared→Prop}{s:Shared}
variable {z TI TO i1 i2:Addr}{f1 f2:List Addr}{n1 n2 k:Nat}{P1 P2:Nat→Value→Prop}{S1 S2:Nat→Heap→Prop}
theorem Draws.sb {j c:Addr}{fp:List Addr}{n i:Nat}{P:Nat→Value→Prop}{St:Nat→Heap→Prop}{h h':Heap} (D:Draws prog w A j fp n P St) (st:St i h) (sb:Heap.SameBut c h h') (hc:c∉fp):St i h' :=
 D.frame _ _ _ st fun b hb o e=>sb.extBut b o (fun q=>hc (q▸hb)) e
theorem zip_open {Q:Fin→Shared→Prop}{a b:Value} (hz:IsZip s.heap z TI TO .none) (hTI:IsPair s.heap TI (.ref i1) (.ref i2)) (hTO:IsPair s.heap TO a b) (hh:A.handled=none)
  (D1:∀ A:Around,A.handled=none→Draws prog w A i1 f1 n1 P1 S1) (D2:∀ A:Around,A.handled=none→Draws prog w A i2 f2 n2 P2 S2) (ap:ZAp z TI TO i1 i2 f1 f2) (h1:S1 k s.heap) (h2:S2 k s.heap)
  (hQ:k<n1→k<n2→∀ x y h' tk,P1 k x→P2 k y→IsZip h' z TI TO (rawInt s.heap.objs.size)→IsPair h' TO x y→S1 (k+1) h'→S2 (k+1) h'→IsPair h' s.heap.objs.size x y→h'.objs.size=s.heap.objs.size+1 →
   (∀ c o,c≠z→c≠TO→c≠i1→c≠i2→s.heap.get? c=some o→h'.get? c=some o)→Q (.done (.ret (.ref s.heap.objs.size))) { s with heap:=h',toks:=tk })
  (hE:(k=n1∨k=n2)→∀ h' e tk,(∀ c o,c≠z→c≠TO→c≠i1→c≠i2→s.heap.get? c=some o→h'.get? c=some o)→(∃ o,h'.get? e=some o∧o.cls=.type "StopIteration")→E (.ref e) { s with heap:=h',toks:=tk })
  (hk1:k≤n1) (hk2:k≤n2):wpAny (model prog w) A (Builtin.«zip.__next__» ⟨[.ref z],[]⟩) Q E s:=by
 show wpAny _ _ (field (.ref z) 2 >>= _) _ _ _
 refine wpAny_bind (wpAny_field hz rfl (x:=.bool false) rfl ?_)
 show wpAny _ _ (field (.ref z) 3 >>= _) _ _ _
 refine wpAny_bind (wpAny_field hz rfl (x:=.ref TI) rfl ?_)
 refine wpAny_bind (wpAny_seqItems hTI rfl ?_)
 show wpAny _ _ (Builtin.SmallTypes.ownedTupleIsFree (.ref z) >>= _) _ _ _
 refine wpAny_bind ?_
 unfold Builtin.SmallTypes.ownedTupleIsFree
 refine wpAny_bind (wpAny_field hz rfl (x:=.none) rfl (wpAny_pure ?_))
 simp only [if_true]
 refine wpAny_bind (wpAny_rule ?_)
 refine wpAny_bind (wpAny_field hz rfl (x:=.ref TO) rfl ?_)
 refine wpAny_bind (wpAny_setField_rec hz (by simp) fun ha za sa=>?_)
 replace za:IsZip ha z TI TO .ellipsis:=za
 have s1a:S1 k ha:=Draws.sb (D1 A hh) h1 sa ap.z1
 have s2a:S2 k ha:=Draws.sb (D2 A hh) h2 sa ap.z2
 have oa:IsPair ha TO a b:=sa.extBut _ _ ap.TOz hTO
 refine wpAny_bind ?_
 simp only [List.zipIdx_cons,List.zipIdx_nil,List.forIn_cons,List.forIn_nil]
 refine wpAny_bind (wpAny_bind (wpAny_onRaise ?_))
 show wpAny _ _ (Builtin.SmallTypes.nextOf (.ref i1) >>= _) _ _ _
 by_cases l1:k<n1
 ·refine wpAny_bind ((D1 _ hh).item k _ _ _ l1 s1a fun x hb tb px s1b sb=>wpAny_pure ?_)
  have ob:IsPair hb TO a b:=sb.extBut _ _ ap.TOi1 oa
  have s2b:S2 k hb:=Draws.sb (D2 A hh) s2a sb ap.j2
  have zb:IsZip hb z TI TO .ellipsis:=sb.extBut _ _ ap.i1z.symm za
  refine wpAny_bind (wpAny_seqItems ob rfl ?_)
  refine wpAny_bind (wpAny_updateSeq_pair ob fun hc oc sc=>?_)
  replace oc:IsPair hc TO x b:=oc
  have s1c:S1 (k+1) hc:=Draws.sb (D1 A hh) s1b sc ap.O1
  have s2c:S2 k hc:=Draws.sb (D2 A hh) s2b sc ap.O2
  have zc:IsZip hc z TI TO .ellipsis:=sc.extBut _ _ ap.TOz.symm zb
  refine wpAny_bind (wpAny_letGo (wpAny_pure ?_))
  refine wpAny_bind (wpAny_bind (wpAny_onRaise ?_))
  show wpAny _ _ (Builtin.SmallTypes.nextOf (.ref i2) >>= _) _ _ _
  by_cases l2:k<n2
  ·refine wpAny_bind ((D2 _ hh).item k _ _ _ l2 s2c fun y hd td py s2d sd=>wpAny_pure ?_)
   have od:IsPair hd TO x b:=sd.extBut _ _ ap.TOi2 oc
   have s1d:S1 (k+1) hd:=Draws.sb (D1 A hh) s1c sd ap.j1
   have zd:IsZip hd z TI TO .ellipsis:=sd.extBut _ _ ap.i2z.symm zc
   refine wpAny_bind (wpAny_seqItems od rfl ?_)
   refine wpAny_bind (wpAny_updateSeq_pair od fun he oe se=>?_)
   replace oe:IsPair he TO x y:=oe
   have s1e:S1 (k+1) he:=Draws.sb (D1 A hh) s1d se ap.O1
   have s2e:S2 (k+1) he:=Draws.sb (D2 A hh) s2d se ap.O2
   have ze:IsZip he z TI TO .ellipsis:=se.extBut _ _ ap.TOz.symm zd
   refine wpAny_bind (wpAny_letGo (wpAny_pure (wpAny_pure ?_)))
   refine wpAny_bind (wpAny_seqItems oe rfl ?_)
   refine wpAny_bind (wpAny_newTuple ?_)
   have hsz:he.objs.size=s.heap.objs.size:=by rw [se.1,sd.1,sc.1,sb.1,sa.1]
   have kp:∀ c o,c≠z→c≠TO→c≠i1→c≠i2→s.heap.get? c=some o→he.get? c=some o:=fun c o c1 c2 c3 c4 e =>
    se.extBut _ _ c2 (sd.extBut _ _ c4 (sc.extBut _ _ c2 (sb.extBut _ _ c3 (sa.extBut _ _ c1 e))))
   have zlt:z<he.objs.size:=Heap.lt_size ze
   show wpAny _ _ (Builtin.SmallTypes.ownedTupleHandOut (.ref z) (.ref he.objs.size) >>= _) _ _ _
   refine wpAny_bind ?_
   unfold Builtin.SmallTypes.ownedTupleHandOut
   have zf:IsZip (he.push { cls:=.type "tuple",data:=.seq #[x,y] }) z TI TO .ellipsis:=Heap.get?_push_of_some _ ze
   refine wpAny_bind (wpAny_setField_rec zf (by simp) fun hg zg sg=>?_)
   replace zg:IsZip hg z TI TO (rawInt he.objs.size):=zg
   refine wpAny_setField_rec zg (by simp) fun hi zi si=>?_
   replace zi:IsZip hi z TI TO (rawInt he.objs.size):=zi
   have up:∀ c o,c≠z→he.get? c=some o→hi.get? c=some o:=fun c o c1 e=>si.extBut _ _ c1 (sg.extBut _ _ c1 (Heap.get?_push_of_some _ e))
   have tz:IsPair hi he.objs.size x y:=si.extBut _ _ (Nat.ne_of_gt zlt) (sg.extBut _ _ (Nat.ne_of_gt zlt) (Heap.get?_push_size _ rfl))
   have zz:hi.objs.size=he.objs.size+1:=by rw [si.1,sg.1,Heap.size_push]
   have s1i:S1 (k+1) hi:=(D1 A hh).frame _ _ _ s1e fun b hb o e=>up b o (fun q=>ap.z1 (q▸hb)) e
   have s2i:S2 (k+1) hi:=(D2 A hh).frame _ _ _ s2e fun b hb o e=>up b o (fun q=>ap.z2 (q▸hb)) e
   rw [hsz] at zi tz zz
   refine wpAny_pure ?_
   show Q (.done (.ret (.ref he.objs.size))) _
   rw [hsz]
   exact hQ l1 l2 x y hi td px py zi (up _ _ ap.TOz oe) s1i s2i tz zz fun c o c1 c2 c3 c4 e=>up c o c1 (kp c o c1 c2 c3 c4 e)
  ·have e2:k=n2:=Nat.le_antisymm hk2 (Nat.le_of_not_lt l2)
   refine wpAny_bind ((D2 _ hh).done _ _ _ (e2▸s2c) fun hd e sd he=>?_)
   obtain ⟨oe,hoe,hce⟩:=he
   have zd:IsZip hd z TI TO .ellipsis:=sd _ _ ap.i2z.symm zc
   have hez:e≠z:=fun q=>by subst q; rw [zd] at hoe; cases hoe; simp at hce
   refine wpAny_setField_rec zd (by simp) fun hf _ sf=>hE (.inr e2) hf e tb (fun c o c1 c2 c3 c4 q=>sf.extBut _ _ c1 (sd _ _ c4 (sc.extBut _ _ c2 (sb.extBut _ _ c3 (sa.extBut _ _ c1 q))))) ⟨oe,sf.extBut _ _ hez hoe,hce⟩
 ·have e1:k=n1:=Nat.le_antisymm hk1 (Nat.le_of_not_lt l1)
  refine wpAny_bind ((D1 _ hh).done _ _ _ (e1▸s1a) fun hd e sd he=>?_)
  obtain ⟨oe,hoe,hce⟩:=he
  have zd:IsZip hd z TI TO .ellipsis:=sd _ _ ap.i1z.symm za
  have hez:e≠z:=fun q=>by subst q; rw [zd] at hoe; cases hoe; simp at hce
  exact wpAny_setField_rec zd (by simp) fun hf _ sf=>hE (.inl e1) hf e s.toks (fun c o c1 _ c3 _ q=>sf.extBut _ _ c1 (sd _ _ c3 (sa.extBut _ _ c1 q))) ⟨oe,sf.extBut _ _ hez hoe,hce⟩
theorem WalksT.zipD (hh:A.handled=none) (D1:∀ A:Around,A.handled=none→Draws prog w A i1 f1 n1 P1 S1) (D2:∀ A:Around,A.handled=none→Draws prog w A i2 f2 n2 P2 S2) (ap:ZAp z TI TO i1 i2 f1 f2) (m1:i1∈f1) (m2:i2∈f2) :
  WalksT prog w A z (z::TI::TO::f1++f2) [z,TO,i1,i2] (min n1 n2) (fun i vals=>∃ x y,P1 i x∧P2 i y∧vals=#[x,y])
   (fun i h=>IsZip h z TI TO .none∧IsPair h TI (.ref i1) (.ref i2)∧(∃ a b,IsPair h TO a b)∧S1 i h∧S2 i h)
   (fun i T h=>IsZip h z TI TO (rawInt T)∧IsPair h TI (.ref i1) (.ref i2)∧(∃ a b,IsPair h TO a b)∧S1 (i+1) h∧S2 (i+1) h∧T≠z∧T≠TO∧T≠i1∧T≠i2) where
 sub:=fun c hc=>by simp at hc ⊢; rcases hc with rfl | rfl | rfl | rfl <;> simp [m1,m2]
 frame:=fun i h h' hst hk=>by
  obtain ⟨hz,hTI,⟨a,b,hTO⟩,h1,h2⟩:=hst
  exact ⟨hk z (by simp) _ hz,hk TI (by simp) _ hTI,⟨a,b,hk TO (by simp) _ hTO⟩,(D1 A hh).frame _ _ _ h1 fun b hb o e=>hk b (by simp [hb]) o e,(D2 A hh).frame _ _ _ h2 fun b hb o e=>hk b (by simp [hb]) o e⟩
 item:=fun i s Q E hi hst hQ=>by
  obtain ⟨hz,hTI,⟨a,b,hTO⟩,h1,h2⟩:=hst
  have hT:s.TypeIs (.ref z) "zip":=⟨_,hz,rfl⟩
  have lt:∀ {c o},s.heap.get? c=some o→s.heap.objs.size≠c:=fun e=>Nat.ne_of_gt (Heap.lt_size e)
  unfold pyNext
  refine wpAny_bind (wpAny_attempt (wpAny_callSpecial?_slot (name:=Str.ofString "__next__") hT F.slot_zip_next
   (wpAny_call_entry F.slot_zip_next hT F.entry_zip_next (zip_open hz hTI hTO hh D1 D2 ap h1 h2 (fun _ _ x y h' tk px py a1 a2 a3 a4 a5 a6 hk=>⟨_,rfl,wpAny_pure ?_⟩) (fun q=>by omega) (by omega) (by omega)) (F.args_zip_next_1 _))))
  refine hQ s.heap.objs.size #[x,y] h' tk ⟨x,y,px,py,rfl⟩ (Nat.le_refl _) ⟨_,a5,rfl,_,rfl⟩ ⟨a1,hk _ _ ap.TIz ap.TITO ap.TIi1 ap.TIi2 hTI,⟨_,_,a2⟩,a3,a4,lt hz,lt hTO,?_,?_⟩
   fun c o hc e=>hk c o (fun x=>hc (by simp [x])) (fun x=>hc (by simp [x])) (fun x=>hc (by simp [x])) (fun x=>hc (by simp [x])) e
  ·obtain ⟨_,e⟩:=(D1 A hh).live _ _ h1; exact lt e
  ·obtain ⟨_,e⟩:=(D2 A hh).live _ _ h2; exact lt e
 go:=fun elts k pos i T s Q E hm hQ=>by
  obtain ⟨hz,hTI,⟨a,b,hTO⟩,h1,h2,_⟩:=hm
  refine wpAny_letOwnedTupleGo_zip hz fun h' hz' hs'=>hQ h' ⟨hz',hs'.extBut _ _ ap.TIz hTI,⟨a,b,hs'.extBut _ _ ap.TOz hTO⟩,Draws.sb (D1 A hh) h1 hs' ap.z1,Draws.sb (D2 A hh) h2 hs' ap.z2⟩ fun c o hc e=>hs'.extBut _ _ (fun x=>hc (by simp [x])) e
 apart:=fun i T h hm hT=>by
  obtain ⟨_,_,_,_,_,t1,t2,t3,t4⟩:=hm
  simp at hT
  rcases hT with rfl | rfl | rfl | rfl
  ·exact t1 rfl
  ·exact t2 rfl
  ·exact t3 rfl
  ·exact t4 rfl
 done:=fun s Q E hst hQ=>by
  obtain ⟨hz,hTI,⟨a,b,hTO⟩,h1,h2⟩:=hst
  have hT:s.TypeIs (.ref z) "zip":=⟨_,hz,rfl⟩
  unfold pyNext
  refine wpAny_bind (wpAny_attempt (wpAny_callSpecial?_slot (name:=Str.ofString "__next__") hT F.slot_zip_next
   (wpAny_call_entry F.slot_zip_next hT F.entry_zip_next (zip_open hz hTI hTO hh D1 D2 ap h1 h2 (fun q1 q2=>by omega) (fun _ h' e tk hk he=>?_) (by omega) (by omega)) (F.args_zip_next_1 _))))
  obtain ⟨o,ho,hc⟩:=he
  refine wpAny_bind (wpAny_isInstance (T := "StopIteration") (b:=true) ⟨o,ho,hc⟩ isSubtype_stop ?_)
  exact wpAny_pure (hQ _ _ fun c o hc e=>hk c o (fun x=>hc (by simp [x])) (fun x=>hc (by simp [x])) (fun x=>hc (by simp [x])) (fun x=>hc (by simp [x])) e)
 self:=fun i s Q E hst hQ=>wpAny_pyIter_zip hst.1 hQ
end
open PySem PySem.Spec PyProof.Rows
noncomputable def itO (b:Bool) (l:Addr):Obj:={ cls:=.type (if b then "tuple_iterator" else "list_iterator"),data:=.fields #[.ref l,.int 0 0] }
noncomputable abbrev zq2 (h:Heap) (b1 b2:Bool) (l1 l2:Addr):Heap:=(h.push (itO b1 l1)).push (itO b2 l2)
noncomputable abbrev zq3 (h:Heap) (b1 b2:Bool) (l1 l2:Addr):Heap:=(zq2 h b1 b2 l1 l2).push { cls:=.type "tuple",data:=.seq #[.ref h.objs.size,.ref (h.push (itO b1 l1)).objs.size] }
noncomputable abbrev zq4 (h:Heap) (b1 b2:Bool) (l1 l2:Addr):Heap:=(zq3 h b1 b2 l1 l2).push { cls:=.type "tuple",data:=.seq #[.none,.none] }
noncomputable abbrev zq5 (h:Heap) (b1 b2:Bool) (l1 l2:Addr):Heap:=(zq4 h b1 b2 l1 l2).push { cls:=.type "zip",data:=.fields #[.none,.bool false,.bool false,.ref (zq2 h b1 b2 l1 l2).objs.size,.ref (zq3 h b1 b2 l1 l2).objs.size] }
theorem zip_newTT (l1 l2:Addr) (xs ys:Array Value) :
  Meets (Builtin.«zip.__new__» ⟨[.type "zip",.ref l1,.ref l2],[]⟩) (fun _ R s=>s.heap.IsTuple l1 xs∧s.heap.IsTuple l2 ys ∧
   R (.ok (.ret (.ref (zq4 s.heap true true l1 l2).objs.size))) { s with heap:=zq5 s.heap true true l1 l2 }) :=
 .of_wp fun prog w A R s h=>by
  obtain ⟨hp,g,d,tk,os⟩:=s; obtain ⟨hl1,hl2,h⟩:=h
  have hsub:=sub_zip
  have hL1:Heap.IsTuple (Shared.heap ⟨hp,g,d,tk,os⟩) l1 xs:=hl1
  have hL2:Heap.IsTuple (Shared.heap ⟨hp.push { cls:=.type "tuple_iterator",data:=.fields #[.ref l1,.int 0 0] },g,d,tk,os⟩) l2 ys:=Heap.IsTuple.push hl2 _
  wp_walk using wpAny_pyIter_tuple hL1,wpAny_pyIter_tuple hL2
  exact ⟨_,rfl,h⟩
theorem zip_newTL (l1 l2:Addr) (xs ys:Array Value) :
  Meets (Builtin.«zip.__new__» ⟨[.type "zip",.ref l1,.ref l2],[]⟩) (fun _ R s=>s.heap.IsTuple l1 xs∧s.heap.IsList l2 ys ∧
   R (.ok (.ret (.ref (zq4 s.heap true false l1 l2).objs.size))) { s with heap:=zq5 s.heap true false l1 l2 }) :=
 .of_wp fun prog w A R s h=>by
  obtain ⟨hp,g,d,tk,os⟩:=s; obtain ⟨hl1,hl2,h⟩:=h
  have hsub:=sub_zip
  have hL1:Heap.IsTuple (Shared.heap ⟨hp,g,d,tk,os⟩) l1 xs:=hl1
  have hL2:Heap.IsList (Shared.heap ⟨hp.push { cls:=.type "tuple_iterator",data:=.fields #[.ref l1,.int 0 0] },g,d,tk,os⟩) l2 ys:=Heap.IsList.push hl2 _
  wp_walk using wpAny_pyIter_tuple hL1,wpAny_pyIter_list hL2
  exact ⟨_,rfl,h⟩
theorem zip_newLT (l1 l2:Addr) (xs ys:Array Value) :
  Meets (Builtin.«zip.__new__» ⟨[.type "zip",.ref l1,.ref l2],[]⟩) (fun _ R s=>s.heap.IsList l1 xs∧s.heap.IsTuple l2 ys ∧
   R (.ok (.ret (.ref (zq4 s.heap false true l1 l2).objs.size))) { s with heap:=zq5 s.heap false true l1 l2 }) :=
 .of_wp fun prog w A R s h=>by
  obtain ⟨hp,g,d,tk,os⟩:=s; obtain ⟨hl1,hl2,h⟩:=h
  have hsub:=sub_zip
  have hL1:Heap.IsList (Shared.heap ⟨hp,g,d,tk,os⟩) l1 xs:=hl1
  have hL2:Heap.IsTuple (Shared.heap ⟨hp.push { cls:=.type "list_iterator",data:=.fields #[.ref l1,.int 0 0] },g,d,tk,os⟩) l2 ys:=Heap.IsTuple.push hl2 _
  wp_walk using wpAny_pyIter_list hL1,wpAny_pyIter_tuple hL2
  exact ⟨_,rfl,h⟩
theorem zip_newLL (l1 l2:Addr) (xs ys:Array Value) :
  Meets (Builtin.«zip.__new__» ⟨[.type "zip",.ref l1,.ref l2],[]⟩) (fun _ R s=>s.heap.IsList l1 xs∧s.heap.IsList l2 ys ∧
   R (.ok (.ret (.ref (zq4 s.heap false false l1 l2).objs.size))) { s with heap:=zq5 s.heap false false l1 l2 }) :=
 .of_wp fun prog w A R s h=>by
  obtain ⟨hp,g,d,tk,os⟩:=s; obtain ⟨hl1,hl2,h⟩:=h
  have hsub:=sub_zip
  have hL1:Heap.IsList (Shared.heap ⟨hp,g,d,tk,os⟩) l1 xs:=hl1
  have hL2:Heap.IsList (Shared.heap ⟨hp.push { cls:=.type "list_iterator",data:=.fields #[.ref l1,.int 0 0] },g,d,tk,os⟩) l2 ys:=Heap.IsList.push hl2 _
  wp_walk using wpAny_pyIter_list hL1,wpAny_pyIter_list hL2
  exact ⟨_,rfl,h⟩
theorem zip_newX (b1 b2:Bool) (l1 l2:Addr) (xs ys:Array Value) :
  Meets (Builtin.«zip.__new__» ⟨[.type "zip",.ref l1,.ref l2],[]⟩) (fun _ R s=>IsX b1 s.heap l1 xs∧IsX b2 s.heap l2 ys ∧
   R (.ok (.ret (.ref (zq4 s.heap b1 b2 l1 l2).objs.size))) { s with heap:=zq5 s.heap b1 b2 l1 l2 }):=by
 cases b1 with
 | true=>cases b2 with
  | true=>exact zip_newTT l1 l2 xs ys
  | false=>exact zip_newTL l1 l2 xs ys
 | false=>cases b2 with
  | true=>exact zip_newLT l1 l2 xs ys
  | false=>exact zip_newLL l1 l2 xs ys
theorem itX_new {b:Bool}{h:Heap}{j l:Addr} (e:h.get? j=some (itO b l)):ItX b h j l 0:=by
 cases b with
 | true=>exact ⟨_,e,rfl,rfl⟩
 | false=>exact ⟨_,e,rfl,rfl⟩
theorem itO_live (b:Bool) (l:Addr):(itO b l).isFreed=false:=by cases b <;> rfl
section
variable {prog:Program}{w:World}{A:Around}{E:Value→Shared→Prop}{s:Shared}
theorem call_zipX {b1 b2:Bool}{l1 l2:Addr}{xs ys:Array Value}{Q:Value→Shared→Prop} (hl1:IsX b1 s.heap l1 xs) (hl2:IsX b2 s.heap l2 ys)
  (h:∀ h',IsZip h' (s.heap.objs.size+4) (s.heap.objs.size+2) (s.heap.objs.size+3) .none→IsPair h' (s.heap.objs.size+2) (.ref s.heap.objs.size) (.ref (s.heap.objs.size+1)) →
   IsPair h' (s.heap.objs.size+3) .none .none→ItX b1 h' s.heap.objs.size l1 0→ItX b2 h' (s.heap.objs.size+1) l2 0 →
   (∀ c o,s.heap.get? c=some o→h'.get? c=some o)→Q (.ref (s.heap.objs.size+4)) { s with heap:=h' }) :
  wpAny (model prog w) A (call (.type "zip") [.ref l1,.ref l2]) Q E s:=by
 refine callType_new F.called_zip (by decide) (F.typeCall_zip_2 _ _) (F.newCall_zip_2 _ _) (fun obj=>F.args_object_init_3 obj _ _) F.entry_zip_new (zip_newX b1 b2 l1 l2 xs ys) ⟨hl1,hl2,?_⟩
 have z1:(s.heap.push (itO b1 l1)).objs.size=s.heap.objs.size+1:=Heap.size_push ..
 have z2:(zq2 s.heap b1 b2 l1 l2).objs.size=s.heap.objs.size+2:=by rw [Heap.size_push,z1]
 have z3:(zq3 s.heap b1 b2 l1 l2).objs.size=s.heap.objs.size+3:=by rw [Heap.size_push,z2]
 have z4:(zq4 s.heap b1 b2 l1 l2).objs.size=s.heap.objs.size+4:=by rw [Heap.size_push,z3]
 have g5:(zq5 s.heap b1 b2 l1 l2).get? (zq4 s.heap b1 b2 l1 l2).objs.size=some _:=Heap.get?_push_size _ rfl
 have g4:(zq5 s.heap b1 b2 l1 l2).get? (zq3 s.heap b1 b2 l1 l2).objs.size=some _:=Heap.get?_push_of_some _ (Heap.get?_push_size _ rfl)
 have g3:(zq5 s.heap b1 b2 l1 l2).get? (zq2 s.heap b1 b2 l1 l2).objs.size=some _:=Heap.get?_push_of_some _ (Heap.get?_push_of_some _ (Heap.get?_push_size _ rfl))
 have g2:(zq5 s.heap b1 b2 l1 l2).get? (s.heap.push (itO b1 l1)).objs.size=some (itO b2 l2):=Heap.get?_push_of_some _ (Heap.get?_push_of_some _ (Heap.get?_push_of_some _ (Heap.get?_push_size _ (itO_live _ _))))
 have g1:(zq5 s.heap b1 b2 l1 l2).get? s.heap.objs.size=some (itO b1 l1):=Heap.get?_push_of_some _ (Heap.get?_push_of_some _ (Heap.get?_push_of_some _ (Heap.get?_push_of_some _ (Heap.get?_push_size _ (itO_live _ _)))))
 show _∧_
 rw [z2,z3,z4] at g5
 rw [z1,z2] at g3
 rw [z3] at g4
 rw [z1] at g2
 rw [z4]
 exact ⟨⟨_,g5,rfl⟩,h _ g5 g3 g4 (itX_new g1) (itX_new g2) fun c o x =>
  Heap.get?_push_of_some _ (Heap.get?_push_of_some _ (Heap.get?_push_of_some _ (Heap.get?_push_of_some _ (Heap.get?_push_of_some _ x))))⟩
end
theorem zap_new {n l1 l2:Addr} (h1:l1<n) (h2:l2<n):ZAp (n+4) (n+2) (n+3) n (n+1) [n,l1] [n+1,l2]:=by
 constructor <;> (try simp only [List.mem_cons,List.not_mem_nil,or_false,not_or]) <;> (try refine ⟨?_,?_⟩) <;> (show ¬ ((_:Nat)=_)) <;> (simp only [Addr] at *; omega)
inductive ZgoX (b1 b2:Bool) (K:W.Frag) (H:Hp) (a b:Addr) (i:Nat):Prop
 | mk (xs ys:List V) (x y:V) (q1:SqX b1 K H a xs) (q2:SqX b2 K H b ys) (ex:xs[i]?=some x) (ey:ys[i]?=some y)
inductive ZstX (b1 b2:Bool) (K:W.Frag) (H:Hp) (a b:Addr) (i:Nat):Prop
 | mk (xs ys:List V) (q1:SqX b1 K H a xs) (q2:SqX b2 K H b ys) (ei:i=min xs.length ys.length)
noncomputable def ItzX (b1 b2:Bool) (K:W.Frag) (a b:Addr):It :=
  ⟨fun i H=>ZgoX b1 b2 K H a b i,
   fun i H v H'=>∃ T,H T=none∧v=.ref T∧∀ xs ys x y,SqX b1 K H a xs→SqX b2 K H b ys→xs[i]?=some x→ys[i]?=some y→H'=upd H T (.tup [x,y]),
   fun i H=>ZstX b1 b2 K H a b i⟩
structure ZsX (b1 b2:Bool) (z TI TO i1 i2 l1 l2:Addr) (i:Nat) (h:Heap):Prop where
 a1:IsZip h z TI TO .none
 a2:IsPair h TI (.ref i1) (.ref i2)
 a3:∃ a b,IsPair h TO a b
 a4:ItX b1 h i1 l1 i
 a5:ItX b2 h i2 l2 i
section
variable {b1 b2:Bool}{z TI TO i1 i2 l1 l2:Addr}{i:Nat}{h:Heap}
theorem ZsX.obj (st:ZsX b1 b2 z TI TO i1 i2 l1 l2 i h):∀ b∈[z,TI,TO,i1,i2],∃ o,h.get? b=some o∧∀ v,o.data≠.cell v:=by
 obtain ⟨_,_,a3⟩:=st.a3
 exact allC ⟨_,st.a1,fun v q=>by cases q⟩ (allC ⟨_,st.a2,fun v q=>by cases q⟩ (allC ⟨_,a3,fun v q=>by cases q⟩ (allC st.a4.obj (allC st.a5.obj allN))))
theorem ZsX.ne (st:ZsX b1 b2 z TI TO i1 i2 l1 l2 i h) {T:Addr} (hT:h.objs.size≤T):∀ b∈[z,TI,TO,i1,i2],b≠T:=fun b hb=>by
 obtain ⟨o,e,_⟩:=st.obj b hb
 exact Nat.ne_of_lt (Nat.lt_of_lt_of_le (Heap.lt_size e) hT)
theorem zsub:∀ b∈[z,TO,i1,i2],b∈[z,TI,TO,i1,i2]:=allC (by simp) (allC (by simp) (allC (by simp) (allC (by simp) allN)))
inductive ZFX (b1 b2:Bool) (X:Cx) (s:Shared) (H:Hp) (l1 l2:Addr) (i:Nat):Prop
 | mk (xs ys:List V) (x y:V) (t1 t2:List Value) (u1 u2:Value) (q1:SqX b1 X.K H l1 xs) (q2:SqX b2 X.K H l2 ys) (ex:xs[i]?=some x) (ey:ys[i]?=some y) (p1:IsX b1 s.heap l1 t1.toArray) (p2:IsX b2 s.heap l2 t2.toArray)
  (e1:t1[i]?=some u1) (e2:t2[i]?=some u2) (r1:RelV x u1) (r2:RelV y u2)
variable {X:Cx}{pins:List (Addr × Obj)}{σ:St}{H:Hp}{s:Shared}
theorem zfX (I:Inv X pins σ H s) (hg:ZgoX b1 b2 X.K H l1 l2 i):ZFX b1 b2 X s H l1 l2 i:=by
 obtain ⟨xs,ys,x,y,q1,q2,ex,ey⟩:=hg
 obtain ⟨its1,r1,p1⟩:=I.sqX q1
 obtain ⟨its2,r2,p2⟩:=I.sqX q2
 obtain ⟨u1,e1,ru1⟩:=r1.get ex
 obtain ⟨u2,e2,ru2⟩:=r2.get ey
 exact ⟨xs,ys,x,y,its1,its2,u1,u2,q1,q2,ex,ey,p1,p2,e1,e2,ru1,ru2⟩
theorem zvX {t1 t2:List Value}{u1 u2:Value}{vals:Array Value} (e1:t1[i]?=some u1) (e2:t2[i]?=some u2) (hv:∃ v1 v2,t1.toArray[i]?=some v1∧t2.toArray[i]?=some v2∧vals=#[v1,v2]):vals=#[u1,u2]:=by
 obtain ⟨v1,v2,g1,g2,rfl⟩:=hv
 rw [List.getElem?_toArray,e1] at g1
 rw [List.getElem?_toArray,e2] at g2
 cases g1; cases g2; rfl
theorem zyX (I:Inv X pins σ H s) {xs ys:List V}{x y:V} (q1:SqX b1 X.K H l1 xs) (q2:SqX b2 X.K H l2 ys) (ex:xs[i]?=some x) (ey:ys[i]?=some y) {T:Addr} (xs' ys':List V) (x' y':V) (s1:SqX b1 X.K H l1 xs') (s2:SqX b2 X.K H l2 ys') (t1:xs'[i]?=some x') (t2:ys'[i]?=some y'):upd H T (.tup [x,y])=upd H T (.tup [x',y']):=by
 have h1:=I.sqX_inj q1 s1
 have h2:=I.sqX_inj q2 s2
 subst h1 h2
 rw [ex] at t1; rw [ey] at t2
 cases t1; cases t2; rfl
end
theorem turn_zipX {P:Program}{w:World}{K:PySem.W.Frag}{elts:List Expr}{k:Nat}{pos:Pos} (b1 b2:Bool) (z TI TO i1 i2 l1 l2:Addr) (D:ZAp z TI TO i1 i2 [i1,l1] [i2,l2]) (d1:l1≠i1) (d2:l2≠i2) :
  Turn P w K (.Tuple elts k pos) (ItzX b1 b2 K l1 l2) [z,TI,TO,i1,i2] z (ZsX b1 b2 z TI TO i1 i2 l1 l2) where
 mem:=by simp
 obj:=fun i h st=>st.obj
 keep:=fun i h h' ⟨a1,a2,⟨x,y,a3⟩,a4,a5⟩ kk =>
  ⟨kk z (by simp) _ a1,kk TI (by simp) _ a2,⟨x,y,kk TO (by simp) _ a3⟩,a4.keep fun o e=>kk i1 (by simp) o e,a5.keep fun o e=>kk i2 (by simp) o e⟩
 item:=by
  intro X hP hw hK hc i pins s σ H E I hf st hg
  subst hP hw hK
  obtain ⟨xs,ys,x,y,its1,its2,u1,u2,q1,q2,ex,ey,p1,p2,e1,e2,ru1,ru2⟩:=zfX I hg
  have W:=WalksT.zipD (prog:=X.prog) (w:=X.w) (I.ok.hd hc) (fun A hh=>drawsX b1 hh i1 l1 d1 its1.toArray) (fun A hh=>drawsX b2 hh i2 l2 d2 its2.toArray) D (by simp) (by simp)
  have hl1:i<its1.length:=(List.getElem?_eq_some_iff.mp e1).1
  have hl2:i<its2.length:=(List.getElem?_eq_some_iff.mp e2).1
  have hwr:∀ b∈[z,TO,i1,i2],FpOk X pins H b:=fun b hb=>hf b (zsub b hb)
  refine W.item i s _ _ (by simp only [List.size_toArray]; omega) ⟨st.a1,st.a2,st.a3,⟨st.a4,p1⟩,st.a5,p2⟩ fun T vals h' tk hv hT hIs hM kk=>?_
  have hvv:=zvX e1 e2 hv
  subst hvv
  have nT:=st.ne hT
  refine ⟨_,rfl,W.go _ _ _ i T { s with heap:=h',toks:=tk } _ _ hM fun h2 st2 kk2=>?_⟩
  have I1:Inv X pins σ (upd H T (.tup [x,y])) { s with heap:=h',toks:=tk }:=I.yields (its:=[u1,u2]) hwr kk hT (.cons ru1 (.cons ru2 .nil)) (by show 2≤sizeLine; decide) hIs
  have I2:=I1.turnedL (tk:=tk) (fp_upd hwr fun b hb=>nT b (zsub b hb)) kk2
  exact ⟨.ref T,_,I2,rfl,⟨T,I.hok.fresh hT,rfl,zyX I q1 q2 ex ey⟩,⟨st2.1,st2.2.1,st2.2.2.1,st2.2.2.2.1.1,st2.2.2.2.2.1⟩,fun b hb=>by rw [upd_ne (nT b hb)]; exact (hf b hb).1⟩
 done:=by
  intro X hP hw hK hc i pins s σ H E I hf st hg
  subst hP hw hK
  obtain ⟨xs,ys,q1,q2,ei⟩:=hg
  obtain ⟨its1,r1,p1⟩:=I.sqX q1
  obtain ⟨its2,r2,p2⟩:=I.sqX q2
  have W:=WalksT.zipD (prog:=X.prog) (w:=X.w) (I.ok.hd hc) (fun A hh=>drawsX b1 hh i1 l1 d1 its1.toArray) (fun A hh=>drawsX b2 hh i2 l2 d2 its2.toArray) D (by simp) (by simp)
  have en:i=min its1.toArray.size its2.toArray.size:=by simp only [List.size_toArray,← r1.length,← r2.length]; exact ei
  refine W.done s _ _ (by rw [← en]; exact ⟨st.a1,st.a2,st.a3,⟨st.a4,p1⟩,st.a5,p2⟩) fun h' tk kk=>?_
  exact ⟨rfl,I.turnedL (fun b hb=>hf b (zsub b hb)) kk⟩
 self:=fun _ _ _ _ _ st h=>wpAny_pyIter_zip st.a1 h
section
variable {X:Cx}
noncomputable def iZipX (K:W.Frag) (ta:TA):TI:=fun σ H R=>ta σ H fun vs H1=>∃ a b b1 b2,vs=[.ref a,.ref b]∧(∃ xs,SqX b1 K H1 a xs)∧(∃ ys,SqX b2 K H1 b ys)∧R (ItzX b1 b2 K a b) H1
theorem pi_zipX {elts:List Expr}{k:Nat}{tpos:Pos}{a b:Expr}{ta:TA}{p pos:Pos} (hg:Gl X "zip") (hm:X.mg "zip"=none) (ha:PA X [a,b] ta) (hs:starEach [a,b] X.env=[(false,eval a X.env),(false,eval b X.env)]:=by rfl) (hs2:starEach [b] X.env=[(false,eval b X.env)]:=by rfl) :
  PI X (.Tuple elts k tpos) (.Call (.Name "zip" p) [a,b] [] pos) (iZipX X.K ta):=by
 intro pins s σ H R I h
 refine Call_ (ld_blt I hg hm bt_zip (PyProof.Rows.callWith_type1 (thn (ha pos pins s σ H _ I h) fun us s1 ⟨vs,H1,I1,r1,q1⟩=>?_) (by rw [hs,hs2]) (by rw [hs2]; rfl)))
 obtain ⟨l1,l2,b1,b2,e,⟨xs,h1⟩,⟨ys,h2⟩,q⟩:=q1
 subst e
 cases r1 with
 | cons r rr =>
  cases rr with
  | cons r' rr =>
   cases rr
   cases r
   cases r'
   obtain ⟨its1,v1,p1⟩:=I1.sqX h1
   obtain ⟨its2,v2,p2⟩:=I1.sqX h2
   refine call_zipX p1 p2 fun h' hz hTI hTO hi1 hi2 hk=>?_
   refine wpAny_pyIter_zip hz ?_
   have I2:Inv X pins σ H1 { s1 with heap:=h' }:=I1.kept (t':=s1.toks) hk
   refine ⟨_,_,_,_,H1,rfl,I2,turn_zipX b1 b2 _ _ _ _ _ l1 l2 (zap_new p1.lt p2.lt) (Nat.ne_of_lt p1.lt) (Nat.ne_of_lt (Nat.lt_succ_of_lt p2.lt)),⟨hz,hTI,⟨_,_,hTO⟩,hi1,hi2⟩,fun b hb=>?_,q⟩
   have hle:s1.heap.objs.size≤b:=by
    simp only [List.mem_cons,List.not_mem_nil,or_false] at hb
    rcases hb with rfl | rfl | rfl | rfl | rfl
    ·exact Nat.le_add_right _ _
    ·exact Nat.le_add_right _ _
    ·exact Nat.le_add_right _ _
    ·exact Nat.le_refl _
    ·exact Nat.le_add_right _ _
   exact I1.fpOk hle (I1.hok.fresh hle)
end
open PySem PySem.Spec PyProof.Rows
section
variable {X:Cx}{pins:List (Addr × Obj)}{σ:St}{H:Hp}{s:Shared}{scope:Scope}{N:List Str}{C:Addr}{ex:List Addr}
theorem ps_compSet {elt iter tg:Expr}{ifs:List Expr}{pos pos' spos:Pos}{y0:Str}{go:TG} (hgo:PG X (.Name y0 pos') go) (hsw:swapsWith (.ListComp elt [⟨tg,iter,ifs,0⟩] scope pos) (some (.Name y0 pos')) spos.line X.env=pure true) {wi:TI}{g:TG}{tc:TT}{te:TE}{k:Nat}{js:List Nat}
  (B:CompH X scope N k js) (hi:PI X tg iter wi)
  (hg:∀ cl s H C ex,PG (cxComp X scope N cl s H C ex) tg g) (htc:∀ cl s H C ex,PTs (cxComp X scope N cl s H C ex) ifs tc) (hte:∀ cl s H C ex,PE (cxComp X scope N cl s H C ex) elt te)
  (hs:∀ x,foldedSetIterable iter X.env x=pure x:=by intro _; rfl):PS X (.Assign [.Name y0 pos'] (.ListComp elt [⟨tg,iter,ifs,0⟩] scope pos) spos) (tAsg (tComp wi k js g tc te) go):=by
 intro pins s σ H D0 I h
 rw [exec_Assign_Name_used _ _ _ _ hsw]
 refine wpAny_bind (wpAny_standAt (wpAny_bind ?_))
 show wpAny _ X.A (do let _ ← comprehension (.ListComp elt [⟨tg,iter,ifs,0⟩] scope pos) scope X.env _ (newList []) false (eval iter X.env) (some (assign (.Name y0 pos') X.env))) _ _ s
 refine wpAny_bind (wpAny_mono (wpAny_comprehension_free (use:=some (assign (.Name y0 pos') X.env)) (Q:=fun _ s'=>SP X pins D0 .next s') rfl hs (closureFor_ok fun x hx=>I.ok.has x (B.free x hx)) B.kind B.names (thn (hi pins s σ H _ I h) fun v s1 h1=>thn h1 fun itv s2 h2=>?_)) (fun _ s' hq=>wpAny_pure (wpAny_pure hq)) fun _ _ e=>e)
 obtain ⟨it,fp,tn,J,H2,e,I2,T,st2,f2,hW⟩:=h2
 subst e
 refine comp_run (Q:=fun x H1=>go x σ H1 D0.nx) B I2 T st2 f2 hg htc hte hW fun cl C H4 s5 hCle hDC I5 q=>?_
 obtain ⟨m,hn,_⟩:=id I5.loc
 have hC4:H4 C=none:=I5.free
 have IA:Inv X pins σ H4 s5:=I2.call' (s':=s5) (ch:=fp) I5.os I5.base I5.hok I5.bare (fun b hb=>⟨(f2 b hb).2.2.2.1,(f2 b hb).2.1,(f2 b hb).2.2.2.2.1,(f2 b hb).2.2.2.2.2⟩)
 have fC:∀ {H':Hp},H' C=none→∀ b∈[C],FpOk X pins H' b:=fun hn b hb=>by
  have:b=C:=by simpa using hb
  subst this
  exact I2.fpOk hCle hn
 have oC:∀ b∈[C],∃ o,s5.heap.get? b=some o∧∀ v,o.data≠.cell v:=fun b hb=>by
  have:b=C:=by simpa using hb
  subst this
  obtain ⟨o,_,_,ho,hd,_⟩:=id hn
  exact ⟨o,ho,fun v z=>by rw [hd] at z; cases z⟩
 have IB:=IA.pinned (fC hC4) oC
 refine thn (hgo _ s5 σ H4 (.ref s2.heap.objs.size) (.ref s2.heap.objs.size) _ IB rfl q) fun _ s6 ⟨σ6,H6,I6,q6⟩=>?_
 obtain ⟨oc,hoc,_⟩:=oC C (by simp)
 have hp6:=I6.pin (C,oc) (List.mem_append_right _ (List.mem_append_right _ (mem_pinsAt (by simp) hoc)))
 refine ⟨m,hn.at' fun o e=>?_,fun h' hs'=>⟨σ6,H6,?_,q6⟩⟩
 ·have e':s5.heap.get? C=some o:=e
  rw [hoc] at e'; cases e'; exact hp6.1
 ·exact I6.unpinned.turnedL (wr:=[C]) (tk:=s6.toks) (fC hp6.2.1) fun b o nb e=>hs'.extBut b o (by simpa using nb) e
end
open PySem PySem.Spec PyProof.Rows
abbrev IsTri (h:Heap) (T:Addr) (a b c:Value):Prop:=h.get? T=some { cls:=.type "tuple",data:=.seq #[a,b,c] }
structure ZAp3 (z TI TO i1 i2 i3:Addr) (f1 f2 f3:List Addr):Prop where
 TIz:TI≠z
 TOz:TO≠z
 i1z:i1≠z
 i2z:i2≠z
 i3z:i3≠z
 TITO:TI≠TO
 TIi1:TI≠i1
 TIi2:TI≠i2
 TIi3:TI≠i3
 TOi1:TO≠i1
 TOi2:TO≠i2
 TOi3:TO≠i3
 z1:z∉f1
 z2:z∉f2
 z3:z∉f3
 O1:TO∉f1
 O2:TO∉f2
 O3:TO∉f3
 a12:i1∉f2
 a13:i1∉f3
 a21:i2∉f1
 a23:i2∉f3
 a31:i3∉f1
 a32:i3∉f2
inductive Zgo3 (K:W.Frag) (H:Hp) (a b c:Addr) (i:Nat):Prop
 | mk (xs ys us:List V) (x y u:V) (q1:SqL K H a xs) (q2:SqT K H b ys) (q3:SqT K H c us) (ex:xs[i]?=some x) (ey:ys[i]?=some y) (eu:us[i]?=some u)
inductive Zst3 (K:W.Frag) (H:Hp) (a b c:Addr) (i:Nat):Prop
 | mk (xs ys us:List V) (q1:SqL K H a xs) (q2:SqT K H b ys) (q3:SqT K H c us) (ei:i=min xs.length (min ys.length us.length))
structure Zs3 (z TI TO i1 i2 i3 l1 l2 l3:Addr) (i:Nat) (h:Heap):Prop where
 a1:IsZip h z TI TO .none
 a2:IsTri h TI (.ref i1) (.ref i2) (.ref i3)
 a3:∃ a b c,IsTri h TO a b c
 a4:ItX false h i1 l1 i
 a5:ItX true h i2 l2 i
 a6:ItX true h i3 l3 i
section
variable {z TI TO i1 i2 i3 l1 l2 l3:Addr}{i:Nat}{h:Heap}
theorem Zs3.obj (st:Zs3 z TI TO i1 i2 i3 l1 l2 l3 i h):∀ b∈[z,TI,TO,i1,i2,i3],∃ o,h.get? b=some o∧∀ v,o.data≠.cell v:=by
 obtain ⟨_,_,_,a3⟩:=st.a3
 exact allC ⟨_,st.a1,fun v q=>by cases q⟩ (allC ⟨_,st.a2,fun v q=>by cases q⟩ (allC ⟨_,a3,fun v q=>by cases q⟩ (allC st.a4.obj (allC st.a5.obj (allC st.a6.obj allN)))))
theorem Zs3.ne (st:Zs3 z TI TO i1 i2 i3 l1 l2 l3 i h) {T:Addr} (hT:h.objs.size≤T):∀ b∈[z,TI,TO,i1,i2,i3],b≠T:=fun b hb=>by
 obtain ⟨o,e,_⟩:=st.obj b hb
 exact Nat.ne_of_lt (Nat.lt_of_lt_of_le (Heap.lt_size e) hT)
inductive ZF3 (X:Cx) (s:Shared) (H:Hp) (l1 l2 l3:Addr) (i:Nat):Prop
 | mk (xs ys us:List V) (x y u:V) (t1 t2 t3:List Value) (u1 u2 u3:Value) (q1:SqL X.K H l1 xs) (q2:SqT X.K H l2 ys) (q3:SqT X.K H l3 us) (ex:xs[i]?=some x) (ey:ys[i]?=some y) (eu:us[i]?=some u)
  (p1:IsX false s.heap l1 t1.toArray) (p2:IsX true s.heap l2 t2.toArray) (p3:IsX true s.heap l3 t3.toArray) (e1:t1[i]?=some u1) (e2:t2[i]?=some u2) (e3:t3[i]?=some u3) (r1:RelV x u1) (r2:RelV y u2) (r3:RelV u u3)
variable {X:Cx}{pins:List (Addr × Obj)}{σ:St}{H:Hp}{s:Shared}
end
open PySem PySem.Spec PyProof.Rows
section
variable {X:Cx}
theorem truth_ints {A:Around}{prog:Program}{w:World}{ns:List Int}{its:List Value} (r:Vals (ns.map V.int) its):TruthOf prog w A (fun i v=>its.toArray[i]?=some v) (fun i=>(ns.map (· != 0)).getD i false):=by
 intro i v s Q E hv hq
 have hv':its[i]?=some v:=by simpa using hv
 have hl:i<ns.length:=by
  have h1:=(List.getElem?_eq_some_iff.mp hv').1
  have h2:=r.length
  rw [List.length_map] at h2
  omega
 obtain ⟨u,e,ru⟩:=Vals.get r (i:=i) (x:=.int ns[i]) (by rw [List.getElem?_map,List.getElem?_eq_getElem hl]; rfl)
 rw [e] at hv'
 cases hv'
 obtain ⟨t,rfl⟩:=ru
 have eq:(ns.map (· != 0)).getD i false=(ns[i] != 0):=by simp [List.getD,hl]
 have hq':Q ((ns.map (· != 0)).getD i false) s:=hq
 rw [eq] at hq'
 exact PyProof.Rows.truthy_int hq'
theorem call_allT (hc:X.calm=true):CallR X (.builtin "all") (fun vs H Q=>∃ (p:Addr) (ns:List Int),vs=[.ref p]∧SqT X.K H p (ns.map V.int)∧Q (.bl (ns.all (· != 0))) H):=by
 intro pins s σ H xs us Q I r h
 obtain ⟨p,ns,rfl,hq,q⟩:=h
 obtain ⟨u,rfl,ru⟩:=vals1 r
 cases ru
 obtain ⟨its,rv,pl,hz⟩:=I.tuple hq
 have pl':s.heap.IsTuple p its.toArray:=pl
 have hlt:p<s.heap.objs.size:=by obtain ⟨_,e,_⟩:=pl'; exact Heap.lt_size e
 have hlen:=rv.length
 rw [List.length_map] at hlen
 refine call_all_walk (wpAny_pyIter_tuple pl' ?_)
 refine ⟨s.heap.objs.size,_,[s.heap.objs.size],_,_,_,_,rfl,Walks.tuple (A:=X.A.in1) (show X.A.in1.handled=none from I.ok.hd hc) s.heap.objs.size p (Nat.ne_of_lt hlt) its.toArray,⟨⟨_,Heap.get?_push_size _ rfl,rfl,rfl⟩,pl'.push _⟩,truth_ints rv,fun h' tk kk=>?_⟩
 have e:(List.range its.toArray.size).all (fun i=>(ns.map (· != 0)).getD i false)=ns.all (· != 0):=by rw [List.size_toArray,← hlen,show ns.length=(ns.map (· != 0)).length by simp,range_all,List.all_map]; rfl
 rw [e]
 refine ⟨.bl (ns.all (· != 0)),H,?_,rfl,q⟩
 exact I.kept (t':=tk) fun b o eb=>kk b o (by simp only [List.mem_singleton]; exact Nat.ne_of_lt (Heap.lt_size eb)) (Heap.get?_push_of_some _ eb)
theorem call_anyT (hc:X.calm=true):CallR X (.builtin "any") (fun vs H Q=>∃ (p:Addr) (ns:List Int),vs=[.ref p]∧SqT X.K H p (ns.map V.int)∧Q (.bl (ns.any (· != 0))) H):=by
 intro pins s σ H xs us Q I r h
 obtain ⟨p,ns,rfl,hq,q⟩:=h
 obtain ⟨u,rfl,ru⟩:=vals1 r
 cases ru
 obtain ⟨its,rv,pl,hz⟩:=I.tuple hq
 have pl':s.heap.IsTuple p its.toArray:=pl
 have hlt:p<s.heap.objs.size:=by obtain ⟨_,e,_⟩:=pl'; exact Heap.lt_size e
 have hlen:=rv.length
 rw [List.length_map] at hlen
 refine call_any_walk (wpAny_pyIter_tuple pl' ?_)
 refine ⟨s.heap.objs.size,_,[s.heap.objs.size],_,_,_,_,rfl,Walks.tuple (A:=X.A.in1) (show X.A.in1.handled=none from I.ok.hd hc) s.heap.objs.size p (Nat.ne_of_lt hlt) its.toArray,⟨⟨_,Heap.get?_push_size _ rfl,rfl,rfl⟩,pl'.push _⟩,truth_ints rv,fun h' tk kk=>?_⟩
 have e:(List.range its.toArray.size).any (fun i=>(ns.map (· != 0)).getD i false)=ns.any (· != 0):=by rw [List.size_toArray,← hlen,show ns.length=(ns.map (· != 0)).length by simp,range_any,List.any_map]; rfl
 rw [e]
 refine ⟨.bl (ns.any (· != 0)),H,?_,rfl,q⟩
 exact I.kept (t':=tk) fun b o eb=>kk b o (by simp only [List.mem_singleton]; exact Nat.ne_of_lt (Heap.lt_size eb)) (Heap.get?_push_of_some _ eb)
end
open PySem PySem.Spec PyProof.Rows
def Raw (h:Heap) (d:Addr) (es:Array DictEntry) (ep:Nat):Prop:=∃ o,h.get? d=some o∧o.cls=.type "dict"∧o.data=.dict es ep
theorem Raw.at {h h':Heap}{d:Addr}{es:Array DictEntry}{ep:Nat} (x:Raw h d es ep) (e:∀ o,h.get? d=some o→h'.get? d=some o):Raw h' d es ep:=let ⟨o,ho,r⟩:=x; ⟨o,e o ho,r⟩
theorem Raw.lt {h:Heap}{d:Addr}{es:Array DictEntry}{ep:Nat} (x:Raw h d es ep):d<h.objs.size:=let ⟨_,ho,_⟩:=x; Heap.lt_size ho
open PySem PySem.Spec PyProof.Rows
section
variable {prog:Program}{w:World}{A:Around}{E:Value→Shared→Prop}{s:Shared}{z TI TO i1 i2:Addr}{f1 f2:List Addr}{n1 n2 k:Nat}{P1 P2:Nat→Value→Prop}{S1 S2:Nat→Heap→Prop}
abbrev IsZipB (h:Heap) (z TI TO T:Addr) (b:Bool):Prop:=h.get? z=some { cls:=.type "zip",data:=.fields #[rawInt T,.bool b,.bool false,.ref TI,.ref TO] }
inductive ZWay (z TI TO:Addr) (h:Heap):Prop
 | fresh (e:IsZip h z TI TO .none)
 | busy (T:Addr) (oT:Obj) (b:Bool) (e:IsZipB h z TI TO T b) (a:h.get? T=some oT) (nz:T≠z) (n1:T≠TO)
structure ZRun (z TI TO i1 i2:Addr) (S1 S2:Nat→Heap→Prop) (k:Nat) (h:Heap):Prop where
 way:ZWay z TI TO h
 ti:IsPair h TI (.ref i1) (.ref i2)
 to:∃ a b,IsPair h TO a b
 s1:S1 k h
 s2:S2 k h
end
open PySem PySem.Spec PyProof.Rows
section
variable {prog:Program}{w:World}{A:Around}{z TI TO i1 i2 d:Addr}{f1 f2:List Addr}{n1 n2:Nat}{P1 P2:Nat→Value→Prop}{S1 S2:Nat→Heap→Prop}
noncomputable abbrev TK2 (prog:Program) (w:World):=tupleKind (mixKind prog w)
def DRaw (prog:Program) (w:World) (h:Heap) (d:Addr) (xs:List (List Key × Addr × Value)):Prop:=∃ o es ep,h.get? d=some o∧o.ExactDict∧o.data=.dict es ep∧es.toList=xs.map (entryOfKey (TK2 prog w))∧(xs.map (·.1)).Nodup
theorem DRaw.of {h:Heap}{xs:List (List Key × Addr × Value)} (x:h.DictOfH (TK2 prog w) d xs):DRaw prog w h d xs:=let ⟨o,es,ep,a,b,c,e,_,f⟩:=x; ⟨o,es,ep,a,b,c,e,f⟩
theorem DRaw.at {h h':Heap}{xs:List (List Key × Addr × Value)} (x:DRaw prog w h d xs) (e:∀ o,h.get? d=some o→h'.get? d=some o):DRaw prog w h' d xs:=let ⟨o,es,ep,a,r⟩:=x; ⟨o,es,ep,e o a,r⟩
theorem ZRun.frame {h h':Heap}{k:Nat} (r:ZRun z TI TO i1 i2 S1 S2 k h) (D1:Draws prog w A i1 f1 n1 P1 S1) (D2:Draws prog w A i2 f2 n2 P2 S2) (e:∀ c o,c≠d→h.get? c=some o→h'.get? c=some o) (hd:∃ o,h'.get? d=some o) (nz:d≠z) (ni:d≠TI) (no:d≠TO) (m1:d∉f1) (m2:d∉f2):ZRun z TI TO i1 i2 S1 S2 k h':=by
 obtain ⟨way,ti,⟨a,b,to⟩,s1,s2⟩:=r
 refine ⟨?_,e _ _ ni.symm ti,⟨a,b,e _ _ no.symm to⟩,D1.frame _ _ _ s1 fun c hc o q=>e c o (fun z=>m1 (z▸hc)) q,D2.frame _ _ _ s2 fun c hc o q=>e c o (fun z=>m2 (z▸hc)) q⟩
 rcases way with hz | ⟨T,oT,bb,hz,hT,n1,n2⟩
 ·exact .fresh (e _ _ nz.symm hz)
 ·by_cases q:T=d
  ·subst q
   obtain ⟨o,ho⟩:=hd
   exact .busy T o bb (e _ _ nz.symm hz) ho n1 n2
  ·exact .busy T oT bb (e _ _ nz.symm hz) (e _ _ q hT) n1 n2
structure ZAll (prog:Program) (w:World) (z TI TO i1 i2 d:Addr) (f1 f2:List Addr) (n1 n2:Nat) (P1 P2:Nat→Value→Prop) (S1 S2:Nat→Heap→Prop) (ks:List (List Key × Addr × Value)) (h0:Heap):Prop where
 D1:∀ A:Around,A.handled=none→Draws prog w A i1 f1 n1 P1 S1
 D2:∀ A:Around,A.handled=none→Draws prog w A i2 f2 n2 P2 S2
 ap:ZAp z TI TO i1 i2 f1 f2
 m1:i1∈f1
 m2:i2∈f2
 n:ks.length=min n1 n2
 p1:∀ i x q,P1 i x→ks[i]?=some q→x=.ref q.2.1
 p2:∀ i y q,P2 i y→ks[i]?=some q→y=q.2.2
 key:∀ q∈ks,(TK2 prog w).is h0 q.1 q.2.1
 fr:∀ c o,h0.get? c=some o→c≠z∧c≠TO∧c≠i1∧c≠i2∧c≠d
 nz:d≠z
 ni:d≠TI
 no:d≠TO
 d1:d∉f1
 d2:d∉f2
end
open PySem PySem.Spec PyProof.Rows
noncomputable def KRw (H:Hp):List (List Key)→List V→Prop:=Paired fun k v=>∃ a,v=.ref a∧H a=some (.tup (k.map kV))
noncomputable def foldP (kvs ps:List (List Key × V)):List (List Key × V):=ps.foldl (fun acc q=>putK acc q.1 q.2) kvs
noncomputable def stoF (zs ks:List (List Key × Addr × Value)):List (List Key × Addr × Value):=ks.foldl (fun a q=>storedH a q.1 q.2.1 q.2.2) zs
inductive KFold (H:Hp) (kvs:List (List Key × V)) (zs:List (List Key × Addr × Value)) (ps:List (List Key × V)) (u1 u2:List Value):Prop
 | mk (ks:List (List Key × Addr × Value)) (r:KT H (foldP kvs ps) (stoF zs ks)) (n:ks.length=min u1.length u2.length) (p1:∀ (i:Nat) (x:Value) (q:List Key × Addr × Value),u1[i]?=some x→ks[i]?=some q→x=.ref q.2.1) (p2:∀ (i:Nat) (y:Value) (q:List Key × Addr × Value),u2[i]?=some y→ks[i]?=some q→y=q.2.2) (k:∀ q∈ks,H q.2.1=some (.tup (q.1.map kV)))
section
variable {X:Cx}{a b:Expr}{ta:TA}{p p2 pos pos2:Pos}
theorem KRw.length {H:Hp}{kks:List (List Key)}{xs:List V} (r:KRw H kks xs):kks.length=xs.length:=Paired.length r
end
open PySem PySem.Spec PyProof.Rows
inductive FzD (X:Cx) (H:Hp) (h:Heap) (a:Addr) (o:Obj) (kvs:List (List Key × V)):Prop
 | mk (es:Array DictEntry) (ep:Nat) (xs:List (List Key × Addr × Value)) (g:h.get? a=some o) (c:o.cls=.type "dict") (d:o.data=.dict es ep) (r:KT H kvs xs) (e:es.toList=xs.map (entryOfKey (tupleKind (mixKind X.prog X.w)))) (lo:(a == sysModules)=false) (z:kvs.length≤sizeLine)
open PySem PySem.Spec PyProof.Rows
def Rs (xs:Array Nat):Prop:=xs.toList.Pairwise (·<·)
theorem Rs.get {xs:Array Nat} (h:Rs xs) {i j a b:Nat} (ha:xs[i]?=some a) (hb:xs[j]?=some b) (l:i<j):a<b:=by
 rw [← Array.getElem?_toList] at ha hb
 obtain ⟨hi,rfl⟩:=List.getElem?_eq_some_iff.mp ha
 obtain ⟨hj,rfl⟩:=List.getElem?_eq_some_iff.mp hb
 exact List.pairwise_iff_getElem.mp h i j hi hj l
def Bl (xs:Array Nat) (j r:Nat):Prop:=r≤xs.size∧(∀ i a,xs[i]?=some a→i<r→a<j)∧∀ i a,xs[i]?=some a→r≤i→j≤a
theorem below_go {xs:Array Nat} (h:Rs xs) (j:Nat):∀ (n lo hi:Nat),hi - lo≤n→lo≤hi→hi≤xs.size→(∀ i a,xs[i]?=some a→i<lo→a<j)→(∀ i a,xs[i]?=some a→hi≤i→j≤a)→Bl xs j (SetTable.below.go xs j n lo hi)
 | 0,lo,hi,h1,h2,h3,h4,h5=>by
  have e:lo=hi:=by omega
  subst e
  exact ⟨h3,h4,h5⟩
 | n+1,lo,hi,h1,h2,h3,h4,h5=>by
  unfold SetTable.below.go
  split
  ·rename_i hl
   have hm:(lo+hi) / 2<xs.size:=by omega
   have hx:xs[(lo+hi) / 2]?=some xs[(lo+hi) / 2]:=Array.getElem?_eq_getElem hm
   have hg:xs.getD ((lo+hi) / 2) j=xs[(lo+hi) / 2]:=by simp [Array.getD,hm]
   simp only [hg]
   split
   ·rename_i hs
    refine below_go h j n _ hi (by omega) (by omega) h3 (fun i a ha hi2=>?_) h5
    by_cases e:i=(lo+hi) / 2
    ·subst e
     rw [hx] at ha
     cases ha
     exact hs
    ·exact Nat.lt_trans (h.get ha hx (by omega)) hs
   ·rename_i hs
    refine below_go h j n lo _ (by omega) (by omega) (by omega) h4 (fun i a ha hi2=>?_)
    by_cases e:i=(lo+hi) / 2
    ·subst e
     rw [hx] at ha
     cases ha
     omega
    ·have:=h.get hx ha (by omega)
     omega
  ·have e:lo=hi:=by omega
   subst e
   exact ⟨h3,h4,h5⟩
theorem below_bl {xs:Array Nat} (h:Rs xs) (j:Nat):Bl xs j (SetTable.below xs j):=by
 refine below_go h j _ 0 xs.size (by omega) (by omega) (Nat.le_refl _) (fun i a _ l=>absurd l (Nat.not_lt_zero _)) fun i a ha l=>?_
 have:i<xs.size:=by
  rcases Nat.lt_or_ge i xs.size with g | g
  ·exact g
  ·rw [Array.getElem?_eq_none g] at ha; cases ha
 omega
theorem Rs.insert {xs:Array Nat} (h:Rs xs) {j:Nat} (hn:xs[SetTable.below xs j]?≠some j):Rs (SetTable.insertAt xs (SetTable.below xs j) j):=by
 obtain ⟨b1,b2,b3⟩:=below_bl h j
 unfold Rs
 rw [SetTable.toList_insertAt]
 have e:xs.toList=xs.toList.take (SetTable.below xs j)++xs.toList.drop (SetTable.below xs j):=(List.take_append_drop _ _).symm
 have h':=h
 unfold Rs at h'
 rw [e,List.pairwise_append] at h'
 obtain ⟨p1,p2,p3⟩:=h'
 have q1:∀ a∈xs.toList.take (SetTable.below xs j),a<j:=fun a ha=>by
  obtain ⟨i,hi,rfl⟩:=List.getElem_of_mem ha
  rw [List.length_take] at hi
  refine b2 i _ ?_ (by omega)
  rw [← Array.getElem?_toList,List.getElem_take]
  exact List.getElem?_eq_getElem _
 have q2:∀ a∈xs.toList.drop (SetTable.below xs j),j<a:=fun a ha=>by
  obtain ⟨i,hi,rfl⟩:=List.getElem_of_mem ha
  rw [List.length_drop] at hi
  have g:xs[SetTable.below xs j+i]?=some ((xs.toList.drop (SetTable.below xs j))[i]):=by
   rw [← Array.getElem?_toList,List.getElem_drop]
   exact List.getElem?_eq_getElem _
  have l:=b3 _ _ g (by omega)
  rcases Nat.lt_or_eq_of_le l with l | l
  ·exact l
  ·exfalso
   by_cases e0:i=0
   ·subst e0
    rw [← l] at g
    exact hn g
   ·have hlt:SetTable.below xs j<xs.size:=by rw [Array.length_toList] at hi; omega
    have hr:xs[SetTable.below xs j]?=some xs[SetTable.below xs j]:=Array.getElem?_eq_getElem hlt
    have:=h.get hr g (by omega)
    have:=b3 _ _ hr (Nat.le_refl _)
    omega
 rw [List.pairwise_append,List.pairwise_cons]
 refine ⟨p1,⟨q2,p2⟩,fun a ha b hb=>?_⟩
 rcases List.mem_cons.mp hb with rfl | hb
 ·exact q1 a ha
 ·exact p3 a ha b hb
theorem slot_free {t:SetTable}{j:Nat} (h:(∃ i,t.slot j=.live i)→False):t.place[SetTable.below t.place j]?≠some j:=by
 intro e
 refine h ⟨SetTable.below t.place j,?_⟩
 unfold SetTable.slot
 simp only [e,beq_self_eq_true,if_true]
theorem probe_go {t:SetTable}{f:Nat→Int}{h:Int}:∀ (n:Nat) (p:SetTable.Probe) {j:Nat}{d:Option Nat},(∀ x,p.dummy=some x→t.place[SetTable.below t.place x]?≠some x)→SetTable.probe.go t f h n p=some (.empty j d)→t.place[SetTable.below t.place (d.getD j)]?≠some (d.getD j)
 | 0,p,j,d,hp,e=>by cases e
 | n+1,p,j,d,hp,e=>by
  unfold SetTable.probe.go at e
  have adv:∀ q:SetTable.Probe,(t.advance q).dummy=q.dummy:=fun q=>by
   unfold SetTable.advance
   split <;> rfl
  split at e
  ·rename_i hs
   cases e
   cases hd:p.dummy with
   | none=>exact slot_free fun ⟨i,hi⟩=>by rw [show (none:Option Nat).getD p.j=p.j from rfl,hs] at hi; cases hi
   | some x=>exact hp x hd
  ·rename_i hs
   refine probe_go n _ (fun x hx=>?_) e
   rw [adv] at hx
   cases hx
   exact slot_free fun ⟨i,hi⟩=>by rw [hs] at hi; cases hi
  ·split at e
   ·cases e
   ·exact probe_go n _ (fun x hx=>hp x (by rw [adv] at hx; exact hx)) e
theorem freeSlot_free {t:SetTable}{h:Int}{j:Nat}{b:Bool} (e:t.freeSlot h=some (j,b)):t.place[SetTable.below t.place j]?≠some j:=by
 unfold SetTable.freeSlot at e
 split at e
 ·rename_i j' d he
  cases e
  exact probe_go _ _ (fun x hx=>by simp [SetTable.probeStart] at hx) he
 ·cases e
structure TOk (bt:Bool) (t:SetTable):Prop where
 led:t.led=!bt
 up:t.plain=true→Rs t.place
theorem TOk.fresh (bt:Bool):TOk bt (.fresh 0 0 (!bt)):=⟨rfl,fun _=>by simp [SetTable.fresh,Rs]⟩
theorem TOk.standIn {bt:Bool}{t:SetTable} (h:TOk bt t) (n:Nat):TOk bt (t.standIn n):=⟨h.led,fun e=>by cases e⟩
theorem TOk.layNew {bt:Bool}{t:SetTable} (k:TOk bt t) (es:Array (Int × Value)) (h:Int) (x:Value):TOk bt (layNew t es h x).2.1:=by
 unfold PySem.layNew
 split
 ·rename_i j b e
  show TOk bt (SetTable.orStandIn (t.put j).1 _)
  have k1:TOk bt (t.put j).1:=⟨k.led,fun p=>(k.up p).insert (freeSlot_free e)⟩
  unfold SetTable.orStandIn
  split
  ·exact k1
  ·exact k1.standIn _
 ·exact k.standIn _
theorem laid_up {m f v:Nat}{l p:Bool}{hs:Array Int}{t:SetTable}{o:Array Nat} (e:SetTable.laid m f v l p hs=some (t,o)):t.led=l∧t.plain=p∧Rs t.place:=by
 unfold SetTable.laid at e
 obtain ⟨ow,_,e⟩:=Option.bind_eq_some_iff.mp e
 cases e
 refine ⟨rfl,rfl,?_⟩
 have e2:∀ ks:List Nat,(ks.filterMap fun j=>(ow.getD j none).map (j,·)).map (·.1)=ks.filter fun j=>(ow.getD j none).isSome:=by
  intro ks
  induction ks with
  | nil=>rfl
  | cons a ks ih =>
   cases h:ow.getD a none with
   | none=>rw [List.filterMap_cons_none (by rw [h]; rfl),List.filter_cons_of_neg (by rw [h]; exact Bool.false_ne_true),ih]
   | some b=>rw [List.filterMap_cons_some (b:=(a,b)) (by rw [h]; rfl),List.filter_cons_of_pos (by rw [h]; rfl),List.map_cons,ih]
 show List.Pairwise (·<·) (((List.range (m+1)).filterMap fun j=>(ow.getD j none).map (j,·)).map (·.1))
 rw [e2]
 exact List.Pairwise.filter _ List.pairwise_lt_range
theorem TOk.relayAll {bt:Bool}{t:SetTable} (k:TOk bt t) (es:Array (Int × Value)) (n:Nat):TOk bt (relayAll t es n).2.1:=by
 unfold PySem.relayAll
 split
 ·rename_i t' o e
  obtain ⟨h1,h2,h3⟩:=laid_up e
  dsimp only
  split
  ·exact ⟨h1.trans k.led,fun _=>h3⟩
  ·exact k.standIn _
 ·exact k.standIn _
open PySem PySem.Spec PyProof.Rows
noncomputable def iV:Value→Int
 | .int z _=>z
 | _=>0
noncomputable def iE (e:Int × Value):Int:=iV e.2
def EI (es:List (Int × Value)):Prop:=∀ e∈es,∃ z tk,e=(hashInt z,Value.int z tk)
theorem EI.elems {prog:Program}{w:World}{es:List (Int × Value)} (h:EI es):ElemsOf (intKind prog w) es:=fun e he=>by
 obtain ⟨z,tk,rfl⟩:=h e he
 exact ⟨⟨z,intKind_is prog w z tk,rfl⟩,rfl⟩
theorem EI.perm {a b:List (Int × Value)} (h:EI a) (p:b.Perm a):EI b:=fun e he=>h e (p.mem_iff.mp he)
inductive StI (bt:Bool) (h:Heap) (a:Addr) (zs:List Int):Prop
 | mk (o:Obj) (es:Array (Int × Value)) (ep:Nat) (t:SetTable) (g:h.get? a=some o) (x:o.ExactSet) (d:o.data=.set es ep t) (k:TOk bt t) (f:t.fits es.size=true) (b:es.size<scanBound) (e:EI es.toList) (p:(es.toList.map iE).Perm zs)
theorem StI.at {bt:Bool}{h h':Heap}{a:Addr}{zs:List Int} (S:StI bt h a zs) (k:∀ o,h.get? a=some o→h'.get? a=some o):StI bt h' a zs:=by
 obtain ⟨o,es,ep,t,g,r⟩:=S
 exact ⟨o,es,ep,t,k o g,‹_›,‹_›,‹_›,‹_›,‹_›,‹_›,‹_›⟩
theorem StI.stored {bt:Bool}{h:Heap}{a:Addr}{o:Obj}{es es':Array (Int × Value)}{ep:Nat}{t t':SetTable}{zs:List Int} (g:h.get? a=some o) (x:o.ExactSet) (d:o.data=.set es ep t)
  (k:TOk bt t') (f:t'.fits es'.size=true) (b:es'.size<scanBound) (e:EI es'.toList) (p:(es'.toList.map iE).Perm zs) :
  (h.update a (Obj.putSet es' t')).get? a=some { o with data:=.set es' (ep+1) t' }∧StI bt (h.update a (Obj.putSet es' t')) a zs:=by
 have hg:(h.update a (Obj.putSet es' t')).get? a=some { o with data:=.set es' (ep+1) t' }:=by
  have:=Heap.get?_update_self (Obj.putSet es' t') g (by rw [putSet_of es' t' d]; rfl)
  rw [putSet_of es' t' d] at this
  exact this
 exact ⟨hg,_,es',ep+1,t',hg,x,rfl,k,f,b,e,p⟩
noncomputable def one (zs:List Int) (z:Int):List Int:=if z∈zs then zs else z::zs
section
variable {prog:Program}{w:World}{A:Around}{E:Value→Shared→Prop}{s:Shared}{bt:Bool}{a:Addr}{zs:List Int}
theorem add_int {z:Int}{tk:Tok}{Q:Bool→Shared→Prop} (S:StI bt s.heap a zs) (room:zs.length+1<scanBound)
  (h:∀ (b:Bool) (h':Heap),Heap.SameBut a s.heap h'→StI bt h' a (one zs z)→Q b { s with heap:=h' }) :
  wpAny (model prog w) A (setAddHashed a (.int z tk) (hashInt z)) Q E s:=by
 obtain ⟨o,es,ep,t,g,x,d,k,f,b,e,p⟩:=S
 have hl:es.size=zs.length:=by rw [← p.length_eq,List.length_map,Array.length_toList]
 unfold setAddHashed setAddHashedIn
 refine wpAny_holding (wpAny_bind (wpAny_setState_of g d f ?_))
 dsimp only
 rw [byScan_of (knd:=intKind prog w) rfl b e.elems,if_pos rfl]
 unfold setAddByScan
 refine wpAny_bind (wpAny_bind (wpAny_rule (wpAny_bind (wpAny_setScan_of (knd:=intKind prog w) (k:=z) (intKind_is prog w z tk) g d f e.elems ?_))))
 cases hr:es.toList.findIdx? (fun q=>(intKind prog w).is z q.2) with
 | some j =>
  obtain ⟨hj,hp,_⟩:=List.findIdx?_eq_some_iff_getElem.mp hr
  have hm:z∈zs:=by
   obtain ⟨z',tk',e1⟩:=e _ (List.getElem_mem hj)
   rw [e1] at hp
   have hz:z'=z:=by simpa [intKind,Value.isInt] using hp
   rw [← hz]
   refine p.mem_iff.mp (List.mem_map.mpr ⟨_,List.getElem_mem hj,?_⟩)
   rw [e1]
   rfl
  refine wpAny_pure (wpAny_pure ?_)
  have:=h false s.heap (Heap.SameBut.refl ..) ⟨o,es,ep,t,g,x,d,k,f,b,e,by rw [one,if_pos hm]; exact p⟩
  cases s
  exact this
 | none =>
  have hm:z∉zs:=fun hz=>by
   obtain ⟨q,hq,e2⟩:=List.mem_map.mp (p.mem_iff.mpr hz)
   have:=List.findIdx?_eq_none_iff.mp hr q hq
   obtain ⟨z',tk',e1⟩:=e q hq
   rw [e1] at this e2
   have hz':z'=z:=e2
   subst hz'
   exact absurd (intKind_is prog w z' tk') (by rw [this]; exact Bool.false_ne_true)
  have p1:=layNew_perm t es (hashInt z) (.int z tk)
  have f1:=layNew_fits t es (hashInt z) (.int z tk)
  have k1:=k.layNew es (hashInt z) (.int z tk)
  dsimp only
  generalize hL:layNew t es (hashInt z) (.int z tk)=L at p1 f1 k1 ⊢
  obtain ⟨es1,t1,wd,gv⟩:=L
  dsimp only at p1 f1 k1 ⊢
  have e1:EI es1.toList:=EI.perm (fun q hq=>by
   rw [Array.toList_push] at hq
   rcases List.mem_append.mp hq with hq | hq
   ·exact e q hq
   ·exact ⟨z,tk,List.mem_singleton.mp hq⟩) p1
  have q1:(es1.toList.map iE).Perm (one zs z):=by
   refine (p1.map iE).trans ?_
   rw [Array.toList_push,List.map_append,one,if_neg hm]
   exact (List.Perm.append_right _ p).trans (List.perm_append_singleton z zs)
  have z1:es1.size=es.size+1:=by rw [← Array.length_toList,p1.length_eq,Array.length_toList,Array.size_push]
  have b1:es1.size<scanBound:=by omega
  have tail:∀ (t2:SetTable) (G:Bool→Sem Unit) (hG:∀ (b:Bool) (s₁:Shared) (Q':Unit→Shared→Prop),Q' () s₁→wpAny (model prog w) A (G b) Q' E s₁),TOk bt t2→t2.fits es1.size=true →
    wpAny (model prog w) A (do
     storeSet a es1 t2
     if (!wd&&t2.tooFull)=true then do
       G (relayAll t2 es1 (SetTable.grown es1.size)).2.2
       storeSet a (relayAll t2 es1 (SetTable.grown es1.size)).1 (relayAll t2 es1 (SetTable.grown es1.size)).2.1
       pure (some true)
      else pure (some true)) (fun r s'=>wpAny (model prog w) A (match r with | some added=>pure added | none=>setAddHashedIn a (.int z tk) (hashInt z) 99999) Q E s') E s:=by
   intro t2 G hG k2 f2
   refine wpAny_bind (wpAny_storeSet_of g d ?_ (fits_of_scanBound b1))
   obtain ⟨g3,S3⟩:=StI.stored g x d k2 f2 b1 e1 q1
   split
   ·have p4:=relayAll_perm t2 es1 (SetTable.grown es1.size)
    have f4:=relayAll_fits t2 es1 (SetTable.grown es1.size)
    have k4:=k2.relayAll es1 (SetTable.grown es1.size)
    generalize relayAll t2 es1 (SetTable.grown es1.size)=M at p4 f4 k4 ⊢
    obtain ⟨es2,t3,gv2⟩:=M
    dsimp only at p4 f4 k4 ⊢
    have z4:es2.size=es1.size:=by rw [← Array.length_toList,p4.length_eq,Array.length_toList]
    have b4:es2.size<scanBound:=by omega
    refine wpAny_bind (hG _ _ _ (wpAny_bind (wpAny_storeSet_of g3 rfl ?_ (fits_of_scanBound b4))))
    refine wpAny_pure (wpAny_pure (h true _ ((Heap.SameBut.update s.heap a _).trans (Heap.SameBut.update _ a _)) ?_))
    exact (StI.stored g3 x rfl k4 f4 b4 (e1.perm p4) ((p4.map iE).trans q1)).2
   ·exact wpAny_pure (wpAny_pure (h true _ (Heap.SameBut.update s.heap a _) S3))
  have hgw:∀ (b:Bool) (s₁:Shared) (Q':Unit→Shared→Prop),Q' () s₁→wpAny (model prog w) A (match b with | true=>rule "set.scan.the-table-gave-way" | false=>pure ()) Q' E s₁ :=
   fun b s₁ Q' hq=>by cases b <;> first | exact wpAny_pure hq | exact wpAny_rule hq
  refine wpAny_bind (hgw _ _ _ ?_)
  split
  ·refine wpAny_bind ?_
   rw [hashByValue_scannable 8 rfl]
   refine wpAny_pure ?_
   exact tail _ _ hgw k1 f1
  ·refine wpAny_bind (wpAny_pure ?_)
   exact tail _ _ hgw k1 f1
end
open PySem PySem.Spec PyProof.Rows
def IsSI (h:Heap) (it S:Addr) (f:Value) (i n ep:Nat):Prop:=∃ o,h.get? it=some o∧o.cls=.type "set_iterator"∧o.data=.fields #[f,.int (i:Int) 0,.ref S,.int (n:Int) 0,.int (ep:Int) 0]
section
variable {prog:Program}{w:World}{A:Around}{E:Value→Shared→Prop}{s:Shared}{it S:Addr}{f:Value}{i n ep:Nat}
theorem IsSI.ty (h:IsSI s.heap it S f i n ep):s.TypeIs (.ref it) "set_iterator":=let ⟨o,g,c,_⟩:=h; ⟨o,g,c⟩
theorem IsSI.at {h h':Heap} (x:IsSI h it S f i n ep) (e:∀ o,h.get? it=some o→h'.get? it=some o):IsSI h' it S f i n ep:=let ⟨o,g,r⟩:=x; ⟨o,e _ g,r⟩
end
open PySem PySem.Spec PyProof.Rows
section
variable {prog:Program}{w:World}{A:Around}{E:Value→Shared→Prop}{s:Shared}{S I T:Addr}{ep:Nat}{es:Array (Int × Value)}{t:SetTable}{o:Obj}{vs:List Value}
inductive SIt (prog:Program) (w:World) (A:Around) (h0:Heap) (S I:Addr) (h':Heap) (n:Nat) (vs:List Value):Prop
 | mk (fp:List Addr) (St:Nat→Heap→Prop) (vals:List Value) (p:vals.Perm vs) (W:Walks prog w A I fp [I] n (fun i v=>vals[i]?=some v) St) (st:St 0 h') (f:∀ b∈fp,b=S∨h0.objs.size≤b) (i:h0.objs.size≤I)
end
open PySem PySem.Spec PyProof.Rows
section
variable {X:Cx}
theorem strs_of:∀ {ss:List Str}{its:List Value},Vals (ss.map V.str) its→∃ l:List (Str × Tok),its=strValues l∧l.map (·.1)=ss
 | [],its,h=>by cases h; exact ⟨[],rfl,rfl⟩
 | z::ss,its,h=>by
  obtain ⟨u,r,rfl,ru,rr⟩:=h.cinv
  obtain ⟨t,rfl⟩:=ru
  obtain ⟨l,rfl,e⟩:=strs_of rr
  exact ⟨(z,t)::l,rfl,by rw [List.map_cons,e]⟩
theorem vals_strs:∀ l:List (Str × Tok),Vals ((l.map (·.1)).map V.str) (strValues l)
 | []=>.nil
 | p::l=>.cons ⟨p.2,rfl⟩ (vals_strs l)
noncomputable def rJoin:V→List V→Hp→VK→Prop:=fun x vs H Q=>∃ z l ss,x=.str z∧vs=[.ref l]∧H l=some (.lst (ss.map V.str))∧JoinOk z ss=true∧Q (.str (Txt.join z ss)) H
theorem mt_join:MtM X "str.join" rJoin:=by
 intro pins s σ H x vs v us Q I rx rv h
 obtain ⟨z,l,ss,rfl,rfl,hH,hok,q⟩:=h
 obtain ⟨t,rfl⟩:=rx
 obtain ⟨u,rfl,ru⟩:=rv.one
 cases ru
 obtain ⟨_,its,n,r,_,e⟩:=I.lstM hH
 obtain ⟨ps,rfl,hp⟩:=strs_of r
 exact SC.join ⟨_,e,rfl,_,rfl⟩ hp hok fun t' k=>⟨.str _,H,I.tok k,⟨_,rfl⟩,q⟩
noncomputable def rFind:V→List V→Hp→VK→Prop:=fun x vs H Q=>∃ z y,x=.str z∧vs=[.str y]∧Q (.int (Txt.find z y)) H
theorem mt_find:MtM X "str.find" rFind:=by
 intro pins s σ H x vs v us Q I rx rv h
 obtain ⟨z,y,rfl,rfl,q⟩:=h
 obtain ⟨t,rfl⟩:=rx
 obtain ⟨u,rfl,ru⟩:=rv.one
 obtain ⟨t',rfl⟩:=ru
 exact call_gives PySem.F.slot_str_find (typeIs_str _ _ _) PySem.F.entry_str_find (PySem.F.args_str_find_2 _ _) (gives_str_find z y t t') ⟨.int _,H,I.tok _,⟨_,rfl⟩,q⟩
open Builtin Builtin.Str in
noncomputable def rSplit:V→List V→Hp→VK→Prop:=fun x vs H Q=>∃ z y,x=.str z∧vs=[.str y]∧(y.length == 0)=false∧z.length≤sizeLine∧(partsBetween z (occurrences z y 0 z.length (z.length+1)) y.length).length≤sizeLine∧∀ l,H l=none→Q (.ref l) (upd H l (.lst ((Txt.split z y).map V.str)))
open Builtin Builtin.Str in
theorem mt_split:MtM X "str.split" rSplit:=by
 intro pins s σ H x vs v us Q I rx rv h
 obtain ⟨x,y,rfl,rfl,hy,hsz,hsz2,q⟩:=h
 obtain ⟨t,rfl⟩:=rx
 obtain ⟨u,rfl,ru⟩:=rv.one
 obtain ⟨u,rfl⟩:=ru
 have q:=q _ (I.hok.fresh (Nat.le_refl s.heap.objs.size))
 have one:∀ z:Str,((1:Nat)≤sizeLine):=fun _=>by rw [sizeLine_eq]; decide
 have fin:∀ (l:List (Str × Tok)) (k:Nat),l.length≤sizeLine→l.map (·.1)=Txt.split x y→EP X pins σ Q (.ref s.heap.objs.size) { s with heap:=s.heap.push { cls:=.type "list",data:=.seq (strValues l).toArray 0 },toks:=k }:=fun l k hz e=>by
  rw [← e] at q
  refine ⟨.ref s.heap.objs.size,_,I.laid (t':=k) (fun b o hb=>Heap.get?_push_of_some _ hb) (Nat.le_refl _) (show ObjOk X.prog X.w _ _ _ (.lst ((l.map (·.1)).map V.str)) from ⟨by rw [List.length_map,List.length_map]; exact hz,_,_,vals_strs l,Heap.get?_push_size _ rfl⟩),rfl,q⟩
 cases h1:(decide (x.length<y.length)||decide (strKind x<strKind y))
 ·cases hf:(occurrences x y 0 x.length (x.length+1)).isEmpty
  ·refine call_meets PySem.F.slot_str_split (typeIs_str _ _ _) PySem.F.entry_str_split (PySem.F.args_str_split_2 _ _) (meets_str_split_sep x y t u h1 hy hf hsz hsz2) ?_
   show wants _ X.xe _ { s with toks:=_,heap:=s.heap.push { cls:=.type "list",data:=.seq (strsFrom s.toks (partsBetween x (occurrences x y 0 x.length (x.length+1)) y.length)).toArray } }
   rw [strsFrom_eq]
   have e:(numbered s.toks (partsBetween x (occurrences x y 0 x.length (x.length+1)) y.length)).map (·.1)=Txt.split x y:=(numbered_texts _ _).trans ((if_neg (ne_true_of_eq_false h1)).trans (if_neg (ne_true_of_eq_false hf))).symm
   refine fin _ _ ?_ e
   have:=congrArg List.length (numbered_texts s.toks (partsBetween x (occurrences x y 0 x.length (x.length+1)) y.length))
   rw [List.length_map] at this
   omega
  ·exact call_meets PySem.F.slot_str_split (typeIs_str _ _ _) PySem.F.entry_str_split (PySem.F.args_str_split_2 _ _) (meets_str_split_not_found x y t u h1 hy hf)
    (fin [(x,t)] s.toks (one x) ((if_neg (ne_true_of_eq_false h1)).trans (if_pos hf)).symm)
 ·exact call_meets PySem.F.slot_str_split (typeIs_str _ _ _) PySem.F.entry_str_split (PySem.F.args_str_split_2 _ _) (meets_str_split_cannot_occur x y t u h1)
   (fin [(x,t)] s.toks (one x) (if_pos h1).symm)
noncomputable def tFmt (ta:TE):TE:=fun σ H Q=>ta σ H fun x H1=>(∃ i,x=.int i∧i.natAbs.log2<1920∧Q (.str (toString i)) H1)∨∃ z,x=.str z∧z.length≤sizeLine∧Q (.str z) H1
theorem pe_fmt {e:Expr}{ta:TE}{pos:Pos} (ha:PE X e ta):PE X (.FormattedValue e (-1) none pos) (tFmt ta):=by
 intro pins s σ H Q I h
 refine wpAny_FormattedValue_plain (thn (ha pins s σ H _ I h) fun v s1 ⟨x,H1,I1,r1,q1⟩=>?_)
 rcases q1 with ⟨i,rfl,hl,q⟩ | ⟨z,rfl,hz,q⟩
 ·obtain ⟨t,rfl⟩:=r1
  exact wpAny_formatField_int hl ⟨.str _,H1,I1.tok _,⟨_,rfl⟩,q⟩
 ·obtain ⟨t,rfl⟩:=r1
  exact wpAny_formatField_str ⟨.str _,H1,I1,⟨_,rfl⟩,q⟩ ⟨.str _,H1,I1.tok _,⟨_,rfl⟩,q⟩ hz
inductive PEs (X:Cx):List Expr→List TE→Prop
 | nil:PEs X [] []
 | cons {e es t ts}:PE X e t→PEs X es ts→PEs X (e::es) (t::ts)
noncomputable def tJS:List TE→Str→TE
 | [],acc=>fun _ H Q=>acc.length≤sizeLine∧Q (.str acc) H
 | t::ts,acc=>fun σ H Q=>t σ H fun x H1=>∃ y,x=.str y∧(acc++y).length≤sizeLine∧tJS ts (acc++y) σ H1 Q
theorem joins_of {pins:List (Addr × Obj)}{σ:St}{Q:VK}:∀ {es:List Expr}{ts:List TE},PEs X es ts→∀ (acc:Str) (H:Hp) (s:Shared),Inv X pins σ H s→tJS ts acc σ H Q →
  Joins (model X.prog X.w) X.A X.xe (evalEach es X.env) acc (fun out s₁=>out.length≤sizeLine∧EP X pins σ Q (.str out s₁.toks) { s₁ with toks:=s₁.toks+1 }) s
 | _,_,.nil,acc,H,s,I,h=>⟨h.1,.str acc,H,I.tok _,⟨_,rfl⟩,h.2⟩
 | e::es,t::ts,.cons he hes,acc,H,s,I,h=>by
  show wpAny _ _ (eval e X.env) _ _ s
  refine thn (he pins s σ H _ I h) fun v s1 ⟨x,H1,I1,r1,y,hx,hl,q⟩=>?_
  subst hx
  obtain ⟨t,rfl⟩:=r1
  exact ⟨y,t,rfl,hl,joins_of hes _ H1 s1 I1 q⟩
theorem pe_joined {e1 e2:Expr}{es:List Expr}{ts:List TE}{pos:Pos} (h:PEs X (e1::e2::es) ts):PE X (.JoinedStr (e1::e2::es) pos) (tJS ts Str.empty):=by
 intro pins s σ H Q I q
 exact wpAny_JoinedStr (joins_of h _ H s I q)
end
open PySem PySem.Spec PyProof.Rows
inductive D where
 | non | bl (b:Bool) | int (i:Int) | str (x:Str) | ty (n:String) | tup (xs:List D) | lst (n:Nat) | dct (n:Nat) | rol (xs:List D)
inductive O where
 | lst (xs:List D) | dk (kvs:List (Key × D)) | dt (kvs:List (List Key × D))
noncomputable abbrev Store:=List O
noncomputable abbrev Env1:=List (Option D)
def SqF (K:W.Frag) (H:Hp) (a:Addr) (xs:List V):Prop:=(∃ o,H a=some (.frz o (.lst xs))) ∨
  ∃ (o:Obj) (its:Array Value) (n:Nat),K.lookup a=some o∧o.cls=.type "list"∧o.dict=none∧o.data=.seq its n∧its.size≤sizeLine∧Vals xs its.toList
theorem SqF.sq {K:W.Frag}{H:Hp}{a:Addr}{xs:List V} (h:SqF K H a xs):SqL K H a xs:=by
 rcases h with ⟨o,h⟩ | h
 ·exact .inl (.inr ⟨o,h⟩)
 ·exact .inr h
structure TF (K:W.Frag) (H H':Hp):Prop where
 t:TK K H H'
 f:∀ a xs,SqF K H a xs→SqF K H' a xs
 u:∀ a xs,H a=some (.tup xs)→H' a=some (.tup xs)
theorem TF.refl (K:W.Frag) (H:Hp):TF K H H:=⟨TK.refl K H,fun _ _ h=>h,fun _ _ h=>h⟩
theorem TF.trans {K:W.Frag}{H H1 H2:Hp} (a:TF K H H1) (b:TF K H1 H2):TF K H H2:=⟨a.t.trans b.t,fun p xs h=>b.f p xs (a.f p xs h),fun p xs h=>b.u p xs (a.u p xs h)⟩
theorem tf_of {K:W.Frag}{H H':Hp}{p:Addr} (h:∀ q o,q≠p→H q=some o→H' q=some o) (nt:∀ xs,H p≠some (.tup xs)) (nf:∀ x y,H p≠some (.frz x y)):TF K H H':=by
 refine ⟨fun q ys e=>?_,fun q ys e=>?_,fun q ys e=>h _ _ (fun z=>nt _ (z▸e)) e⟩
 ·rcases e with (e | ⟨w,e⟩) | e
  ·exact .inl (.inl (h _ _ (fun z=>nt _ (z▸e)) e))
  ·exact .inl (.inr ⟨w,h _ _ (fun z=>nf _ _ (z▸e)) e⟩)
  ·exact .inr e
 ·rcases e with ⟨w,e⟩ | e
  ·exact .inl ⟨w,h _ _ (fun z=>nf _ _ (z▸e)) e⟩
  ·exact .inr e
theorem tf_upd {K:W.Frag}{H:Hp}{p:Addr}{u o:HO} (e:H p=some u) (nt:∀ xs,u≠.tup xs) (nf:∀ x y,u≠.frz x y):TF K H (upd H p o) :=
 tf_of (p:=p) (fun q v hq h=>by rw [upd_ne hq]; exact h) (fun xs h=>by rw [e] at h; exact nt xs (Option.some.inj h)) (fun x y h=>by rw [e] at h; exact nf x y (Option.some.inj h))
theorem tf_lst {K:W.Frag}{H:Hp}{p:Addr}{xs:List V}{o:HO} (e:H p=some (.lst xs)):TF K H (upd H p o):=tf_upd e (fun _ z=>by cases z) (fun _ _ z=>by cases z)
theorem tf_same {K:W.Frag}{H H':Hp} (h:Same H H'):TF K H H':=⟨fun p xs e=>h.tup e,fun q ys e=>by
 rcases e with ⟨w,e⟩ | e
 ·exact .inl ⟨w,h _ _ e⟩
 ·exact .inr e,fun _ _ e=>h _ _ e⟩
mutual
noncomputable def RV (K:W.Frag) (H:Hp) (μ:List Addr):D→V→Prop
 | .non,v=>v=.non
 | .bl b,v=>v=.bl b
 | .int i,v=>v=.int i
 | .str x,v=>v=.str x
 | .ty n,v=>v=.ty n
 | .tup xs,v=>∃ p vs,v=.ref p∧H p=some (.tup vs)∧RVs K H μ xs vs
 | .lst n,v=>∃ a,v=.ref a∧μ[n]?=some a
 | .dct n,v=>∃ a,v=.ref a∧μ[n]?=some a
 | .rol xs,v=>∃ p vs,v=.ref p∧SqF K H p vs∧RVs K H μ xs vs
noncomputable def RVs (K:W.Frag) (H:Hp) (μ:List Addr):List D→List V→Prop
 | [],vs=>vs=[]
 | d::ds,vs=>∃ v ws,vs=v::ws∧RV K H μ d v∧RVs K H μ ds ws
end
def RKs {κ:Type} (K:W.Frag) (H:Hp) (μ:List Addr) (kvs:List (κ × D)) (ws:List (κ × V)):Prop:=kvs.map (·.1)=ws.map (·.1)∧RVs K H μ (kvs.map (·.2)) (ws.map (·.2))
noncomputable def OR (K:W.Frag) (H:Hp) (μ:List Addr) (a:Addr):O→Prop
 | .lst xs=>∃ vs,H a=some (.lst vs)∧RVs K H μ xs vs
 | .dk kvs=>∃ ws,H a=some (.dK ws)∧RKs K H μ kvs ws
 | .dt kvs=>∃ ws,H a=some (.dT ws)∧RKs K H μ kvs ws
structure SR (K:W.Frag) (μ:List Addr) (S:Store) (H:Hp):Prop where
 len:μ.length=S.length
 nd:μ.Nodup
 obj:∀ (n:Nat) (a:Addr) (o:O),μ[n]?=some a→S[n]?=some o→OR K H μ a o
structure Step (K:W.Frag) (μ μ':List Addr) (H H':Hp):Prop where
 pre:∃ ν,μ'=μ++ν∧∀ b∈ν,H b=none
 fr:∀ b o,b∉μ→H b=some o→H' b=some o
 tk:TF K H H'
section
variable {K:W.Frag}{H H' H1 H2:Hp}{μ μ' μ1 μ2:List Addr}{S S':Store}
mutual
theorem RV.up (tk:TF K H H') (pre:∃ ν,μ'=μ++ν):∀ (d:D) (v:V),RV K H μ d v→RV K H' μ' d v
 | .non,v,h=>by simpa [RV] using h
 | .bl b,v,h=>by simpa [RV] using h
 | .int i,v,h=>by simpa [RV] using h
 | .str x,v,h=>by simpa [RV] using h
 | .ty n,v,h=>by simpa [RV] using h
 | .tup xs,v,h=>by
  unfold RV at h ⊢
  obtain ⟨p,vs,e,q,r⟩:=h
  exact ⟨p,vs,e,tk.u p vs q,RVs.up tk pre xs vs r⟩
 | .lst n,v,h=>by
  unfold RV at h ⊢
  obtain ⟨a,e,q⟩:=h
  obtain ⟨ν,rfl⟩:=pre
  exact ⟨a,e,by rw [List.getElem?_append_left (List.getElem?_eq_some_iff.mp q).1]; exact q⟩
 | .dct n,v,h=>by
  unfold RV at h ⊢
  obtain ⟨a,e,q⟩:=h
  obtain ⟨ν,rfl⟩:=pre
  exact ⟨a,e,by rw [List.getElem?_append_left (List.getElem?_eq_some_iff.mp q).1]; exact q⟩
 | .rol xs,v,h=>by
  unfold RV at h ⊢
  obtain ⟨p,vs,e,q,r⟩:=h
  exact ⟨p,vs,e,tk.f p vs q,RVs.up tk pre xs vs r⟩
theorem RVs.up (tk:TF K H H') (pre:∃ ν,μ'=μ++ν):∀ (ds:List D) (vs:List V),RVs K H μ ds vs→RVs K H' μ' ds vs
 | [],vs,h=>by simpa [RVs] using h
 | d::ds,vs,h=>by
  unfold RVs at h ⊢
  obtain ⟨v,ws,e,r,q⟩:=h
  exact ⟨v,ws,e,RV.up tk pre d v r,RVs.up tk pre ds ws q⟩
end
theorem RVs.len:∀ {ds:List D}{vs:List V},RVs K H μ ds vs→ds.length=vs.length
 | [],vs,h=>by unfold RVs at h; subst h; rfl
 | d::ds,vs,h=>by
  unfold RVs at h
  obtain ⟨v,ws,rfl,_,q⟩:=h
  rw [List.length_cons,List.length_cons,RVs.len q]
theorem RVs.nil:RVs K H μ [] []:=by unfold RVs; rfl
theorem RVs.cons {d:D}{v:V}{ds:List D}{vs:List V} (h:RV K H μ d v) (t:RVs K H μ ds vs):RVs K H μ (d::ds) (v::vs):=by
 unfold RVs; exact ⟨v,vs,rfl,h,t⟩
theorem RVs.get:∀ {ds:List D}{vs:List V}{i:Nat}{d:D},RVs K H μ ds vs→ds[i]?=some d→∃ v,vs[i]?=some v∧RV K H μ d v
 | [],vs,i,d,h,e=>by simp at e
 | x::ds,vs,0,d,h,e=>by
  unfold RVs at h
  obtain ⟨v,ws,rfl,r,q⟩:=h
  simp at e; subst e
  exact ⟨v,rfl,r⟩
 | x::ds,vs,i+1,d,h,e=>by
  unfold RVs at h
  obtain ⟨v,ws,rfl,r,q⟩:=h
  obtain ⟨u,e1,e2⟩:=RVs.get (i:=i) (d:=d) q (by simpa using e)
  exact ⟨u,by simpa using e1,e2⟩
theorem RVs.append:∀ {ds es:List D}{vs us:List V},RVs K H μ ds vs→RVs K H μ es us→RVs K H μ (ds++es) (vs++us)
 | [],es,vs,us,h,g=>by unfold RVs at h; subst h; exact g
 | d::ds,es,vs,us,h,g=>by
  unfold RVs at h
  obtain ⟨v,ws,rfl,r,q⟩:=h
  exact .cons r (RVs.append q g)
theorem RVs.take:∀ {ds:List D}{vs:List V} (n:Nat),RVs K H μ ds vs→RVs K H μ (ds.take n) (vs.take n)
 | _,_,0,_=>by simp; exact .nil
 | [],vs,n+1,h=>by unfold RVs at h; subst h; exact .nil
 | d::ds,vs,n+1,h=>by
  unfold RVs at h
  obtain ⟨v,ws,rfl,r,q⟩:=h
  exact .cons r (RVs.take n q)
theorem RVs.drop:∀ {ds:List D}{vs:List V} (n:Nat),RVs K H μ ds vs→RVs K H μ (ds.drop n) (vs.drop n)
 | _,_,0,h=>by simpa using h
 | [],vs,n+1,h=>by unfold RVs at h; subst h; exact .nil
 | d::ds,vs,n+1,h=>by
  unfold RVs at h
  obtain ⟨v,ws,rfl,r,q⟩:=h
  exact RVs.drop n q
theorem RVs.set {d:D}{v:V} (g:RV K H μ d v):∀ {ds:List D}{vs:List V} (n:Nat),RVs K H μ ds vs→RVs K H μ (ds.set n d) (vs.set n v)
 | [],vs,n,h=>by unfold RVs at h; subst h; exact .nil
 | x::ds,vs,0,h=>by
  unfold RVs at h
  obtain ⟨u,ws,rfl,r,q⟩:=h
  exact .cons g q
 | x::ds,vs,n+1,h=>by
  unfold RVs at h
  obtain ⟨u,ws,rfl,r,q⟩:=h
  exact .cons r (RVs.set g n q)
theorem RVs.ints {ns:List Int}:RVs K H μ (ns.map D.int) (ns.map V.int):=by
 induction ns with
 | nil=>exact .nil
 | cons a r ih=>exact .cons (by unfold RV; rfl) ih
theorem RKs.up {κ:Type} (tk:TF K H H') (pre:∃ ν,μ'=μ++ν) {kvs:List (κ × D)}{ws:List (κ × V)} (h:RKs K H μ kvs ws):RKs K H' μ' kvs ws:=⟨h.1,RVs.up tk pre _ _ h.2⟩
theorem SR.isS (sr:SR K μ S H) {a:Addr} (h:a∈μ):∃ o,H a=some o:=by
 obtain ⟨n,hn⟩:=List.getElem?_of_mem h
 have hl:n<S.length:=by rw [← sr.len]; exact (List.getElem?_eq_some_iff.mp hn).1
 have q:=sr.obj n a S[n] hn (List.getElem?_eq_getElem hl)
 revert q
 generalize S[n]=o
 intro q
 cases o with
 | lst xs=>obtain ⟨vs,e,_⟩:=q; exact ⟨_,e⟩
 | dk kvs=>obtain ⟨vs,e,_⟩:=q; exact ⟨_,e⟩
 | dt kvs=>obtain ⟨vs,e,_⟩:=q; exact ⟨_,e⟩
theorem SR.out (sr:SR K μ S H) {a:Addr} (h:H a=none):a∉μ:=fun m=>by
 obtain ⟨o,e⟩:=sr.isS m
 rw [h] at e
 cases e
theorem Step.refl (K:W.Frag) (μ:List Addr) (H:Hp):Step K μ μ H H:=⟨⟨[],by simp,by simp⟩,fun _ _ _ h=>h,TF.refl K H⟩
theorem Step.mem (st:Step K μ μ' H H') {a:Addr} (h:a∈μ):a∈μ':=by
 obtain ⟨ν,rfl,_⟩:=st.pre
 exact List.mem_append_left _ h
theorem Step.ext (st:Step K μ μ' H H'):∃ ν,μ'=μ++ν:=let ⟨ν,e,_⟩:=st.pre; ⟨ν,e⟩
theorem Step.trans (a:Step K μ μ1 H H1) (b:Step K μ1 μ2 H1 H2) (nd:μ2.Nodup):Step K μ μ2 H H2:=by
 obtain ⟨ν,e,n1⟩:=a.pre
 obtain ⟨ν',e',n2⟩:=b.pre
 have nd':(μ++ν++ν').Nodup:=by rw [← e,← e']; exact nd
 refine ⟨⟨ν++ν',by rw [e',e,List.append_assoc],fun c hc=>?_⟩,fun c o hc h=>?_,a.tk.trans b.tk⟩
 ·rcases List.mem_append.mp hc with h | h
  ·exact n1 c h
  ·have hn:=n2 c h
   cases q:H c with
   | none=>rfl
   | some o =>
    have:c∉μ:=fun hm=>by
     have:=(List.nodup_append.mp nd').2.2 c (List.mem_append_left _ hm) c h
     exact this rfl
    rw [a.fr c o this q] at hn
    cases hn
 ·refine b.fr c o (fun hm=>?_) (a.fr c o hc h)
  rw [e] at hm
  rcases List.mem_append.mp hm with h' | h'
  ·exact hc h'
  ·rw [n1 c h'] at h; cases h
theorem OR.up (tk:TF K H H') (pre:∃ ν,μ'=μ++ν) {a:Addr} (e:H' a=H a):∀ {o:O},OR K H μ a o→OR K H' μ' a o
 | .lst xs,⟨vs,h,r⟩=>⟨vs,by rw [e]; exact h,RVs.up tk pre _ _ r⟩
 | .dk kvs,⟨ws,h,r⟩=>⟨ws,by rw [e]; exact h,r.up tk pre⟩
 | .dt kvs,⟨ws,h,r⟩=>⟨ws,by rw [e]; exact h,r.up tk pre⟩
theorem tk_new {p:Addr}{o:HO} (h:H p=none):TF K H (upd H p o):=tf_same (same_new h o)
theorem SR.other (sr:SR K μ S H) {p:Addr}{o:HO} (h:H p=none):SR K μ S (upd H p o)∧Step K μ μ H (upd H p o):=by
 have hp:=sr.out h
 refine ⟨⟨sr.len,sr.nd,fun n a o' e1 e2=>?_⟩,⟨⟨[],by simp,by simp⟩,fun b u hb e=>?_,tk_new h⟩⟩
 ·have hm:a∈μ:=List.mem_of_getElem? e1
  have ne:a≠p:=fun z=>hp (z▸hm)
  exact (sr.obj n a o' e1 e2).up (tk_new h) ⟨[],by simp⟩ (upd_ne ne)
 ·rw [upd_ne (ne_of_none e h)]; exact e
theorem SR.push (sr:SR K μ S H) {p:Addr}{o:HO}{o':O} (h:H p=none) (ho:OR K (upd H p o) (μ++[p]) p o'):SR K (μ++[p]) (S++[o']) (upd H p o)∧Step K μ (μ++[p]) H (upd H p o):=by
 have hp:=sr.out h
 refine ⟨⟨by simp [sr.len],?_,fun n a u e1 e2=>?_⟩,⟨⟨[p],rfl,fun b hb=>?_⟩,fun b u hb e=>?_,tk_new h⟩⟩
 ·rw [List.nodup_append]
  refine ⟨sr.nd,by simp,fun a ha b hb=>?_⟩
  simp at hb; subst hb
  exact fun z=>hp (z▸ha)
 ·by_cases hn:n<μ.length
  ·rw [List.getElem?_append_left hn] at e1
   rw [List.getElem?_append_left (by rw [← sr.len]; exact hn)] at e2
   have hm:a∈μ:=List.mem_of_getElem? e1
   have ne:a≠p:=fun z=>hp (z▸hm)
   exact (sr.obj n a u e1 e2).up (tk_new h) ⟨[p],rfl⟩ (upd_ne ne)
  ·rw [List.getElem?_append_right (by omega)] at e1
   rw [List.getElem?_append_right (by rw [← sr.len]; omega)] at e2
   have h1:n - μ.length=0:=by
    have:=(List.getElem?_eq_some_iff.mp e1).1
    simp at this; omega
   rw [h1] at e1
   rw [← sr.len,h1] at e2
   simp at e1 e2
   subst e1 e2
   exact ho
 ·simp at hb; subst hb; exact h
 ·rw [upd_ne (ne_of_none e h)]; exact e
theorem SR.put (sr:SR K μ S H) {n:Nat}{p:Addr}{o u:HO}{o':O} (hn:μ[n]?=some p) (hp:H p=some u) (nt:∀ xs,u≠.tup xs) (nf:∀ x y,u≠.frz x y) (ho:OR K (upd H p o) μ p o'):SR K μ (S.set n o') (upd H p o)∧Step K μ μ H (upd H p o):=by
 have tk:TF K H (upd H p o):=tf_upd hp nt nf
 have hmem:p∈μ:=List.mem_of_getElem? hn
 refine ⟨⟨by simp [sr.len],sr.nd,fun m a w e1 e2=>?_⟩,⟨⟨[],by simp,by simp⟩,fun b w hb e=>?_,tk⟩⟩
 ·by_cases hm:m=n
  ·subst hm
   rw [hn] at e1; cases e1
   have hl:m<S.length:=by rw [← sr.len]; exact (List.getElem?_eq_some_iff.mp hn).1
   rw [List.getElem?_set_self hl] at e2
   cases e2
   exact ho
  ·rw [List.getElem?_set_ne (fun z=>hm z.symm)] at e2
   have ne:a≠p:=fun z=>by
    subst z
    exact hm ((List.getElem?_inj (List.getElem?_eq_some_iff.mp e1).1 sr.nd).mp (e1.trans hn.symm))
   exact (sr.obj m a w e1 e2).up tk ⟨[],by simp⟩ (upd_ne ne)
 ·have ne:b≠p:=fun z=>hb (z▸hmem)
  rw [upd_ne ne]; exact e
end
open PySem PySem.Spec PyProof.Rows
inductive R (α:Type) where
 | bad | ok (a:α) (S:Store) | er (c:Str) (S:Store)
noncomputable abbrev M (α:Type):=Store→R α
noncomputable def bnd {α β:Type} (m:M α) (f:α→M β):M β:=fun S=>match m S with
 | .bad=>.bad
 | .er c S'=>.er c S'
 | .ok a S'=>f a S'
noncomputable def ret {α:Type} (a:α):M α:=fun S=>.ok a S
noncomputable def bad {α:Type}:M α:=fun _=>.bad
inductive BndOk {α β:Type} (m:M α) (f:α→M β) (S:Store) (b:β) (S2:Store):Prop
 | mk (a:α) (S1:Store) (e:m S=.ok a S1) (g:f a S1=.ok b S2)
theorem bnd_ok {α β:Type}{m:M α}{f:α→M β}{S S2:Store}{b:β} (h:bnd m f S=.ok b S2):BndOk m f S b S2:=by
 unfold bnd at h
 cases e:m S with
 | bad=>rw [e] at h; cases h
 | er c S'=>rw [e] at h; cases h
 | ok a S'=>rw [e] at h; exact ⟨a,S',e,h⟩
theorem ret_ok {α:Type}{a b:α}{S S':Store} (h:ret a S=.ok b S'):b=a∧S'=S:=by
 unfold ret at h; cases h; exact ⟨rfl,rfl⟩
noncomputable abbrev C:=Env1→M D
noncomputable abbrev CT:=Env1→M Bool
noncomputable abbrev CA:=Env1→M (List D)
def RE (K:W.Frag) (H:Hp) (μ:List Addr) (ρ:Env1) (σ:St):Prop:=ρ.length=σ.length∧∀ (i:Nat) (d:D),ρ[i]?=some (some d)→∃ v,σ[i]?=some (some v)∧RV K H μ d v
section
variable {K:W.Frag}{H H':Hp}{μ μ':List Addr}{ρ:Env1}{σ:St}
theorem RE.up (h:RE K H μ ρ σ) (st:Step K μ μ' H H'):RE K H' μ' ρ σ:=⟨h.1,fun i d e=>let ⟨v,q,r⟩:=h.2 i d e; ⟨v,q,RV.up st.tk st.ext d v r⟩⟩
theorem RE.set (h:RE K H μ ρ σ) {d:D}{v:V} (r:RV K H μ d v) (i:Nat):RE K H μ (ρ.set i (some d)) (σ.set i (some v)):=by
 refine ⟨by simp [h.1],fun j d' e=>?_⟩
 by_cases hj:i=j
 ·subst hj
  have hl:i<ρ.length:=by
   have:=(List.getElem?_eq_some_iff.mp e).1
   simpa using this
  rw [List.getElem?_set_self hl] at e
  cases e
  exact ⟨v,by rw [List.getElem?_set_self (by rw [← h.1]; exact hl)],r⟩
 ·rw [List.getElem?_set_ne hj] at e ⊢
  exact h.2 j d' e
end
def Yld (K:W.Frag) (μ:List Addr) (H:Hp) (d:D) (S':Store) (Q:VK):Prop:=∀ v H' μ',SR K μ' S' H'→Step K μ μ' H H'→RV K H' μ' d v→Q v H'
def YldA (K:W.Frag) (μ:List Addr) (H:Hp) (ds:List D) (S':Store) (Q:List V→Hp→Prop):Prop:=∀ vs H' μ',SR K μ' S' H'→Step K μ μ' H H'→RVs K H' μ' ds vs→Q vs H'
def YldT (K:W.Frag) (μ:List Addr) (H:Hp) (b:Bool) (S':Store) (Q:Bool→Hp→Prop):Prop:=∀ H' μ',SR K μ' S' H'→Step K μ μ' H H'→Q b H'
inductive tOf (K:W.Frag) (c:C) (σ:St) (H:Hp) (Q:VK):Prop
 | mk (μ:List Addr) (ρ:Env1) (S:Store) (d:D) (S':Store) (sr:SR K μ S H) (re:RE K H μ ρ σ) (e:c ρ S=.ok d S') (y:Yld K μ H d S' Q)
inductive tOfA (K:W.Frag) (c:CA) (σ:St) (H:Hp) (Q:List V→Hp→Prop):Prop
 | mk (μ:List Addr) (ρ:Env1) (S:Store) (d:List D) (S':Store) (sr:SR K μ S H) (re:RE K H μ ρ σ) (e:c ρ S=.ok d S') (y:YldA K μ H d S' Q)
inductive tOfT (K:W.Frag) (c:CT) (σ:St) (H:Hp) (Q:Bool→Hp→Prop):Prop
 | mk (μ:List Addr) (ρ:Env1) (S:Store) (d:Bool) (S':Store) (sr:SR K μ S H) (re:RE K H μ ρ σ) (e:c ρ S=.ok d S') (y:YldT K μ H d S' Q)
theorem Yld.self {K:W.Frag}{μ:List Addr}{H:Hp}{d:D}{S:Store}{Q:VK} (h:Yld K μ H d S Q) (sr:SR K μ S H) {v:V} (r:RV K H μ d v):Q v H:=h v H μ sr (Step.refl K μ H) r
theorem Yld.shift {K:W.Frag}{μ μ1:List Addr}{H H1:Hp}{d:D}{S:Store}{Q:VK} (h:Yld K μ H d S Q) (st:Step K μ μ1 H H1):Yld K μ1 H1 d S Q:=fun v H' μ' sr s2 r=>h v H' μ' sr (st.trans s2 sr.nd) r
theorem YldT.shift {K:W.Frag}{μ μ1:List Addr}{H H1:Hp}{d:Bool}{S:Store}{Q:Bool→Hp→Prop} (h:YldT K μ H d S Q) (st:Step K μ μ1 H H1):YldT K μ1 H1 d S Q:=fun H' μ' sr s2=>h H' μ' sr (st.trans s2 sr.nd)
theorem PE.weak {X:Cx}{e:Expr}{t t':TE} (h:PE X e t) (w:∀ σ H Q,t' σ H Q→t σ H Q):PE X e t':=fun pins s σ H Q I q=>h pins s σ H Q I (w σ H Q q)
theorem PT.weak {X:Cx}{e:Expr}{t t':TT} (h:PT X e t) (w:∀ σ H Q,t' σ H Q→t σ H Q):PT X e t':=fun pins s σ H Q I q=>h pins s σ H Q I (w σ H Q q)
theorem PW.weak {X:Cx}{e:Expr}{t t':TT} (h:PW X e t) (w:∀ σ H Q,t' σ H Q→t σ H Q):PW X e t':=fun wh pins s σ H Q I q=>h wh pins s σ H Q I (w σ H Q q)
theorem PA.weak {X:Cx}{e:List Expr}{t t':TA} (h:PA X e t) (w:∀ σ H Q,t' σ H Q→t σ H Q):PA X e t':=fun pos pins s σ H Q I q=>h pos pins s σ H Q I (w σ H Q q)
theorem PS.weak {X:Cx}{e:Stmt}{t t':TS} (h:PS X e t) (w:∀ D σ H,t' D σ H→t D σ H):PS X e t':=fun pins s σ H D I q=>h pins s σ H D I (w D σ H q)
theorem PSs.weak {X:Cx}{e:List Stmt}{t t':TS} (h:PSs X e t) (w:∀ D σ H,t' D σ H→t D σ H):PSs X e t':=fun pins s σ H D I q=>h pins s σ H D I (w D σ H q)
noncomputable def rAny (X:Cx) (f:Value→Value→Sem Value):R2:=fun v u H Q=>∃ r,OpR X f r∧r v u H Q
theorem opAny {X:Cx}{f:Value→Value→Sem Value}:OpR X f (rAny X f):=fun pins s σ H x y v u Q I rx ry ⟨r,ho,q⟩=>ho pins s σ H x y v u Q I rx ry q
noncomputable def uAny (X:Cx) (f:Value→Sem Value):V→Hp→VK→Prop:=fun v H Q=>∃ r,UnR X f r∧r v H Q
theorem unAny {X:Cx}{f:Value→Sem Value}:UnR X f (uAny X f):=fun pins s σ H x v Q I rx ⟨r,ho,q⟩=>ho pins s σ H x v Q I rx q
noncomputable def cAny (X:Cx) (f:Value):List V→Hp→VK→Prop:=fun vs H Q=>∃ r,CallR X f r∧r vs H Q
theorem callAny {X:Cx}{f:Value}:CallR X f (cAny X f):=fun pins s σ H x v Q I rx ⟨r,ho,q⟩=>ho pins s σ H x v Q I rx q
noncomputable def ixAnyR (X:Cx):R2:=fun v u H Q=>∃ r,IxR X r∧r v u H Q
theorem ixAny {X:Cx}:IxR X (ixAnyR X):=fun va sl pins s σ H x y v u Q I rx ry ⟨r,ho,q⟩ hs=>ho va sl pins s σ H x y v u Q I rx ry q hs
noncomputable def slAnyR (X:Cx):V→Option Int→Option Int→Hp→VK→Prop:=fun v lo hi H Q=>∃ r,SlR X r∧r v lo hi H Q
theorem slAny {X:Cx}:SlR X (slAnyR X):=fun pins s σ H x v vl vu lo hi sl Q I rx a b c ⟨r,ho,q⟩=>ho pins s σ H x v vl vu lo hi sl Q I rx a b c q
noncomputable def mtAnyR (X:Cx) (id:String):V→List V→Hp→VK→Prop:=fun v vs H Q=>∃ r,MtR X id r∧r v vs H Q
theorem mtAny {X:Cx}{id:String}:MtR X id (mtAnyR X id):=fun pins s σ H x xs v us Q I rx rs ⟨r,ho,q⟩=>ho pins s σ H x xs v us Q I rx rs q
noncomputable def setAnyR (X:Cx):TSet:=fun o i v H Q=>∃ r,PSet X r∧r o i v H Q
theorem setAny {X:Cx}:PSet X (setAnyR X):=fun pins s σ H o i v ov iv u Q I r1 r2 r3 ⟨r,ho,q⟩=>ho pins s σ H o i v ov iv u Q I r1 r2 r3 q
noncomputable def cVar (i:Nat):C:=fun ρ S=>match ρ[i]? with
 | some (some d)=>.ok d S
 | _=>.bad
noncomputable def cCon (d:D):C:=fun _ S=>.ok d S
noncomputable def cBin (o:D→D→M D) (a b:C):C:=fun ρ=>bnd (a ρ) fun x=>bnd (b ρ) fun y=>o x y
noncomputable def cUn (o:D→M D) (a:C):C:=fun ρ=>bnd (a ρ) o
noncomputable def cArgs:List C→CA
 | []=>fun _=>ret []
 | c::cs=>fun ρ=>bnd (c ρ) fun x=>bnd (cArgs cs ρ) fun xs=>ret (x::xs)
noncomputable def cApp (o:List D→M D) (a:CA):C:=fun ρ=>bnd (a ρ) o
noncomputable def cTup (a:CA):C:=cApp (fun xs=>ret (.tup xs)) a
noncomputable def cLst (a:CA):C:=cApp (fun xs S=>.ok (.lst S.length) (S++[.lst xs])) a
noncomputable def cIf (t:CT) (a b:C):C:=fun ρ=>bnd (t ρ) fun k=>if k then a ρ else b ρ
noncomputable def cBool (a:C):CT:=fun ρ=>bnd (a ρ) fun x=>match x with
 | .bl b=>ret b
 | _=>bad
noncomputable def cAndV (a b:C):C:=fun ρ=>bnd (cBool a ρ) fun k=>if k then b ρ else ret (.bl false)
noncomputable def cOrV (a b:C):C:=fun ρ=>bnd (cBool a ρ) fun k=>if k then ret (.bl true) else b ρ
noncomputable def cNotV (a:C):C:=fun ρ=>bnd (cBool a ρ) fun k=>ret (.bl (!k))
noncomputable def cAndT (a b:CT):CT:=fun ρ=>bnd (a ρ) fun k=>if k then b ρ else ret false
noncomputable def cOrT (a b:CT):CT:=fun ρ=>bnd (a ρ) fun k=>if k then ret true else b ρ
noncomputable def cNotT (a:CT):CT:=fun ρ=>bnd (a ρ) fun k=>ret (!k)
noncomputable def dB (x:D):M Bool:=match x with
 | .bl b=>ret b
 | _=>bad
noncomputable def cChain (o o':D→D→M D) (a b c:C):C:=fun ρ=>bnd (a ρ) fun x=>bnd (b ρ) fun y=>bnd (o x y) fun z=>bnd (dB z) fun k=>if k then bnd (c ρ) fun w=>o' y w else ret (.bl false)
noncomputable def cChain3 (o o' o2:D→D→M D) (a b c d:C):CT:=fun ρ=>bnd (a ρ) fun x=>bnd (b ρ) fun y=>bnd (o x y) fun z=>bnd (dB z) fun k =>
 if k then bnd (c ρ) fun w=>bnd (o' y w) fun z2=>bnd (dB z2) fun k2=>if k2 then bnd (d ρ) fun w2=>bnd (o2 w w2) dB else ret false else ret false
section
variable {X:Cx}{a b c d:Expr}{ca cb cc cd:C}{pos:Pos}
theorem se_var {i:Nat}{x:Str} (h:PE X (.Name x pos) (tVar i)):PE X (.Name x pos) (tOf X.K (cVar i)):=h.weak fun σ H Q ⟨μ,ρ,S,d,S',sr,re,e,y⟩=>by
 unfold cVar at e
 split at e
 ·rename_i d' hd
  cases e
  obtain ⟨v,q,r⟩:=re.2 i _ hd
  exact ⟨v,q,y.self sr r⟩
 ·cases e
theorem se_con {e:Expr}{v:V}{d:D} (h:PE X e (tC v)) (hd:∀ K H μ,RV K H μ d v):PE X e (tOf X.K (cCon d)):=h.weak fun σ H Q ⟨μ,ρ,S,d',S',sr,re,e,y⟩=>by
 unfold cCon at e
 cases e
 exact y.self sr (hd _ _ _)
def OpS (K:W.Frag) (r:R2) (o:D→D→M D):Prop:=∀ x y S d S' H μ v u Q,o x y S=.ok d S'→SR K μ S H→RV K H μ x v→RV K H μ y u→Yld K μ H d S' Q→r v u H Q
theorem of_bin {r:R2}{o:D→D→M D} (ho:OpS X.K r o):∀ σ H Q,tOf X.K (cBin o ca cb) σ H Q→tOp r (tOf X.K ca) (tOf X.K cb) σ H Q:=by
 rintro σ H Q ⟨μ,ρ,S,d,S',sr,re,e,y⟩
 obtain ⟨x,S1,e1,e⟩:=bnd_ok e
 obtain ⟨z,S2,e2,e⟩:=bnd_ok e
 refine ⟨μ,ρ,S,x,S1,sr,re,e1,fun v H1 μ1 sr1 st1 r1=>⟨μ1,ρ,S1,z,S2,sr1,re.up st1,e2,fun u H2 μ2 sr2 st2 r2=>?_⟩⟩
 exact ho x z S2 d S' H2 μ2 v u Q e sr2 (RV.up st2.tk st2.ext _ _ r1) r2 (y.shift (st1.trans st2 sr2.nd))
theorem se_bin {op:Operator}{o:D→D→M D} (ho:OpS X.K (rAny X (binaryOp op)) o) (ha:PE X a (tOf X.K ca)) (hb:PE X b (tOf X.K cb)):PE X (.BinOp a op b pos) (tOf X.K (cBin o ca cb)):=(pe_op opAny ha hb).weak (of_bin ho)
theorem se_cmp {op:CmpOp}{o:D→D→M D} (ho:OpS X.K (rAny X (compareOp op)) o) (ha:PE X a (tOf X.K ca)) (hb:PE X b (tOf X.K cb)) (hm:behindInMarks op b=false):PE X (.Compare a [op] [b] pos) (tOf X.K (cBin o ca cb)):=(pe_cmpR opAny ha hb hm).weak (of_bin ho)
theorem of_test {t:TE}{c:C} (h:∀ σ H Q,tOf X.K c σ H Q→t σ H Q):∀ σ H Q,tOfT X.K (cBool c) σ H Q→tTest t σ H Q:=by
 rintro σ H Q ⟨μ,ρ,S,d,S',sr,re,e,y⟩
 obtain ⟨x,S1,e1,e⟩:=bnd_ok e
 refine h σ H _ ⟨μ,ρ,S,x,S1,sr,re,e1,fun v H1 μ1 sr1 st1 r1=>?_⟩
 cases x with
 | bl k =>
  obtain ⟨rfl,rfl⟩:=ret_ok e
  unfold RV at r1
  exact ⟨_,r1,y H1 μ1 sr1 st1⟩
 | _=>cases e
theorem st_cmp {op:CmpOp}{o:D→D→M D} (ho:OpS X.K (rAny X (compareOp op)) o) (ha:PE X a (tOf X.K ca)) (hb:PE X b (tOf X.K cb)) (hm:behindInMarks op b=false):PT X (.Compare a [op] [b] pos) (tOfT X.K (cBool (cBin o ca cb))):=(pt_cmpR opAny ha hb hm).weak (of_test (of_bin ho))
theorem of_chain {r r':R2}{o o':D→D→M D} (ho:OpS X.K r o) (ho':OpS X.K r' o'):∀ σ H Q,tOf X.K (cChain o o' ca cb cc) σ H Q→tChain r r' (tOf X.K ca) (tOf X.K cb) (tOf X.K cc) σ H Q:=by
 rintro σ H Q ⟨μ,ρ,S,d,S',sr,re,e,y⟩
 obtain ⟨x,S1,e1,f1⟩:=bnd_ok e
 obtain ⟨z,S2,e2,f2⟩:=bnd_ok f1
 obtain ⟨t,S3,e3,f3⟩:=bnd_ok f2
 obtain ⟨k,S4,e4,f4⟩:=bnd_ok f3
 refine ⟨μ,ρ,S,x,S1,sr,re,e1,fun v H1 μ1 sr1 st1 r1=>⟨μ1,ρ,S1,z,S2,sr1,re.up st1,e2,fun u H2 μ2 sr2 st2 r2=>?_⟩⟩
 have st12:=st1.trans st2 sr2.nd
 refine ho x z S2 t S3 H2 μ2 v u _ e3 sr2 (RV.up st2.tk st2.ext _ _ r1) r2 fun v3 H3 μ3 sr3 st3 r3=>?_
 have st13:=st12.trans st3 sr3.nd
 cases t with
 | bl k' =>
  obtain ⟨rfl,rfl⟩:=ret_ok e4
  unfold RV at r3
  refine ⟨_,r3,?_⟩
  cases k with
  | true =>
   rw [if_pos rfl] at f4 ⊢
   obtain ⟨w,S5,e5,f5⟩:=bnd_ok f4
   refine ⟨μ3,ρ,_,w,S5,sr3,re.up st13,e5,fun v5 H5 μ5 sr5 st5 r5=>?_⟩
   exact ho' z w S5 d S' H5 μ5 u v5 Q f5 sr5 (RV.up st5.tk st5.ext _ _ (RV.up st3.tk st3.ext _ _ r2)) r5 (y.shift (st13.trans st5 sr5.nd))
  | false =>
   rw [if_neg Bool.false_ne_true] at f4 ⊢
   obtain ⟨rfl,rfl⟩:=ret_ok f4
   exact y _ H3 μ3 sr3 st13 (by unfold RV; rfl)
 | _=>cases e4
theorem se_chain {op op':CmpOp}{o o':D→D→M D} (ho:OpS X.K (rAny X (compareOp op)) o) (ho':OpS X.K (rAny X (compareOp op')) o') (ha:PE X a (tOf X.K ca)) (hb:PE X b (tOf X.K cb)) (hc:PE X c (tOf X.K cc)) (hm:lastMarks [op,op'] [b,c]=false) :
  PE X (.Compare a [op,op'] [b,c] pos) (tOf X.K (cChain o o' ca cb cc)):=(pe_chain opAny opAny ha hb hc hm).weak (of_chain ho ho')
theorem st_chain {op op':CmpOp}{o o':D→D→M D} (ho:OpS X.K (rAny X (compareOp op)) o) (ho':OpS X.K (rAny X (compareOp op')) o') (ha:PE X a (tOf X.K ca)) (hb:PE X b (tOf X.K cb)) (hc:PE X c (tOf X.K cc)) (hm:lastMarks [op,op'] [b,c]=false) :
  PT X (.Compare a [op,op'] [b,c] pos) (tOfT X.K (cBool (cChain o o' ca cb cc))):=(pt_chain opAny opAny ha hb hc hm).weak (of_test (of_chain ho ho'))
theorem st_chain3 {op op' op2:CmpOp}{o o' o2:D→D→M D} (ho:OpS X.K (rAny X (compareOp op)) o) (ho':OpS X.K (rAny X (compareOp op')) o') (ho2:OpS X.K (rAny X (compareOp op2)) o2) (ha:PE X a (tOf X.K ca)) (hb:PE X b (tOf X.K cb)) (hc:PE X c (tOf X.K cc)) (hd:PE X d (tOf X.K cd))
  (hm:lastMarks [op,op',op2] [b,c,d]=false):PT X (.Compare a [op,op',op2] [b,c,d] pos) (tOfT X.K (cChain3 o o' o2 ca cb cc cd)):=by
 refine (pt_chain3 opAny opAny opAny ha hb hc hd hm).weak ?_
 rintro σ H Q ⟨μ,ρ,S,d,S',sr,re,e,y⟩
 obtain ⟨x,S1,e1,f1⟩:=bnd_ok e
 obtain ⟨z,S2,e2,f2⟩:=bnd_ok f1
 obtain ⟨t,S3,e3,f3⟩:=bnd_ok f2
 obtain ⟨k,S4,e4,f4⟩:=bnd_ok f3
 refine ⟨μ,ρ,S,x,S1,sr,re,e1,fun v H1 μ1 sr1 st1 r1=>⟨μ1,ρ,S1,z,S2,sr1,re.up st1,e2,fun u H2 μ2 sr2 st2 r2=>?_⟩⟩
 have st12:=st1.trans st2 sr2.nd
 refine ho x z S2 t S3 H2 μ2 v u _ e3 sr2 (RV.up st2.tk st2.ext _ _ r1) r2 fun v3 H3 μ3 sr3 st3 r3=>?_
 have st13:=st12.trans st3 sr3.nd
 cases t with
 | bl k' =>
  obtain ⟨rfl,rfl⟩:=ret_ok e4
  unfold RV at r3
  refine ⟨_,r3,?_⟩
  cases k with
  | true =>
   rw [if_pos rfl] at f4 ⊢
   obtain ⟨w,S5,e5,f5⟩:=bnd_ok f4
   obtain ⟨t2,S6,e6,f6⟩:=bnd_ok f5
   obtain ⟨k2,S7,e7,f7⟩:=bnd_ok f6
   refine ⟨μ3,ρ,_,w,S5,sr3,re.up st13,e5,fun v5 H5 μ5 sr5 st5 r5=>?_⟩
   have st15:=st13.trans st5 sr5.nd
   refine ho' z w S5 t2 S6 H5 μ5 u v5 _ e6 sr5 (RV.up st5.tk st5.ext _ _ (RV.up st3.tk st3.ext _ _ r2)) r5 fun v6 H6 μ6 sr6 st6 r6=>?_
   have st16:=st15.trans st6 sr6.nd
   cases t2 with
   | bl k3 =>
    obtain ⟨rfl,rfl⟩:=ret_ok e7
    unfold RV at r6
    refine ⟨_,r6,?_⟩
    cases k2 with
    | true =>
     rw [if_pos rfl] at f7 ⊢
     obtain ⟨w2,S8,e8,f8⟩:=bnd_ok f7
     obtain ⟨t3,S9,e9,f9⟩:=bnd_ok f8
     refine ⟨μ6,ρ,_,w2,S8,sr6,re.up st16,e8,fun v8 H8 μ8 sr8 st8 r8=>?_⟩
     have st18:=st16.trans st8 sr8.nd
     refine ho2 w w2 S8 t3 S9 H8 μ8 v5 v8 _ e9 sr8 (RV.up st8.tk st8.ext _ _ (RV.up st6.tk st6.ext _ _ r5)) r8 fun v9 H9 μ9 sr9 st9 r9=>?_
     cases t3 with
     | bl k4 =>
      obtain ⟨rfl,rfl⟩:=ret_ok f9
      unfold RV at r9
      exact ⟨_,r9,y H9 μ9 sr9 (st18.trans st9 sr9.nd)⟩
     | _=>cases f9
    | false =>
     rw [if_neg Bool.false_ne_true] at f7 ⊢
     obtain ⟨rfl,rfl⟩:=ret_ok f7
     exact y H6 μ6 sr6 st16
   | _=>cases e7
  | false =>
   rw [if_neg Bool.false_ne_true] at f4 ⊢
   obtain ⟨rfl,rfl⟩:=ret_ok f4
   exact y H3 μ3 sr3 st13
 | _=>cases e4
def UnS (K:W.Frag) (r:V→Hp→VK→Prop) (o:D→M D):Prop:=∀ x S d S' H μ v Q,o x S=.ok d S'→SR K μ S H→RV K H μ x v→Yld K μ H d S' Q→r v H Q
theorem se_un {op:UnaryOp}{o:D→M D} (ho:UnS X.K (uAny X (unaryOp op)) o) (ha:PE X a (tOf X.K ca)):PE X (.UnaryOp op a pos) (tOf X.K (cUn o ca)):=(pe_un unAny ha).weak (by
 rintro σ H Q ⟨μ,ρ,S,d,S',sr,re,e,y⟩
 obtain ⟨x,S1,e1,e⟩:=bnd_ok e
 exact ⟨μ,ρ,S,x,S1,sr,re,e1,fun v H1 μ1 sr1 st1 r1=>ho x S1 d S' H1 μ1 v Q e sr1 r1 (y.shift st1)⟩)
theorem of_bool {σ:St}{H:Hp}{μ:List Addr}{ρ:Env1}{S S':Store}{k:Bool} (sr:SR X.K μ S H) (re:RE X.K H μ ρ σ) (e:cBool ca ρ S=.ok k S') {Q:VK} (h:∀ H1 μ1,SR X.K μ1 S' H1→Step X.K μ μ1 H H1→Q (.bl k) H1):tOf X.K ca σ H Q:=by
 obtain ⟨x,S1,e1,e⟩:=bnd_ok e
 refine ⟨μ,ρ,S,x,S1,sr,re,e1,fun v H1 μ1 sr1 st1 r1=>?_⟩
 cases x with
 | bl k' =>
  obtain ⟨rfl,rfl⟩:=ret_ok e
  unfold RV at r1
  subst r1
  exact h H1 μ1 sr1 st1
 | _=>cases e
theorem se_and {rest:List Expr} (ha:PE X a (tOf X.K ca)) (hb:PE X (.BoolOp .And (b::rest) pos) (tOf X.K cb)):PE X (.BoolOp .And (a::b::rest) pos) (tOf X.K (cAndV ca cb)):=(pe_and ha hb).weak (by
 rintro σ H Q ⟨μ,ρ,S,d,S',sr,re,e,y⟩
 obtain ⟨k,S1,e1,e⟩:=bnd_ok e
 refine of_bool sr re e1 fun H1 μ1 sr1 st1=>⟨k,rfl,?_⟩
 cases k with
 | true=>rw [if_pos rfl] at e ⊢; exact ⟨μ1,ρ,S1,d,S',sr1,re.up st1,e,y.shift st1⟩
 | false=>rw [if_neg Bool.false_ne_true] at e ⊢; obtain ⟨rfl,rfl⟩:=ret_ok e; exact y _ H1 μ1 sr1 st1 (by unfold RV; rfl))
theorem se_or {rest:List Expr} (ha:PE X a (tOf X.K ca)) (hb:PE X (.BoolOp .Or (b::rest) pos) (tOf X.K cb)):PE X (.BoolOp .Or (a::b::rest) pos) (tOf X.K (cOrV ca cb)):=(pe_or ha hb).weak (by
 rintro σ H Q ⟨μ,ρ,S,d,S',sr,re,e,y⟩
 obtain ⟨k,S1,e1,e⟩:=bnd_ok e
 refine of_bool sr re e1 fun H1 μ1 sr1 st1=>⟨k,rfl,?_⟩
 cases k with
 | false=>rw [if_neg Bool.false_ne_true] at e ⊢; exact ⟨μ1,ρ,S1,d,S',sr1,re.up st1,e,y.shift st1⟩
 | true=>rw [if_pos rfl] at e ⊢; obtain ⟨rfl,rfl⟩:=ret_ok e; exact y _ H1 μ1 sr1 st1 (by unfold RV; rfl))
theorem se_not (ha:PE X a (tOf X.K ca)):PE X (.UnaryOp .Not a pos) (tOf X.K (cNotV ca)):=(pe_not ha).weak (by
 rintro σ H Q ⟨μ,ρ,S,d,S',sr,re,e,y⟩
 obtain ⟨k,S1,e1,e⟩:=bnd_ok e
 obtain ⟨rfl,rfl⟩:=ret_ok e
 exact of_bool sr re e1 fun H1 μ1 sr1 st1=>⟨k,rfl,y _ H1 μ1 sr1 st1 (by unfold RV; rfl)⟩)
theorem se_ifExp {t:Expr}{ct:CT} (ht:PT X t (tOfT X.K ct)) (ha:PE X a (tOf X.K ca)) (hb:PE X b (tOf X.K cb)):PE X (.IfExp t a b pos) (tOf X.K (cIf ct ca cb)):=(pe_ifExp ht ha hb).weak (by
 rintro σ H Q ⟨μ,ρ,S,d,S',sr,re,e,y⟩
 obtain ⟨k,S1,e1,e⟩:=bnd_ok e
 refine ⟨μ,ρ,S,k,S1,sr,re,e1,fun H1 μ1 sr1 st1=>?_⟩
 cases k with
 | true=>rw [if_pos rfl] at e ⊢; exact ⟨μ1,ρ,S1,d,S',sr1,re.up st1,e,y.shift st1⟩
 | false=>rw [if_neg Bool.false_ne_true] at e ⊢; exact ⟨μ1,ρ,S1,d,S',sr1,re.up st1,e,y.shift st1⟩)
variable {ta tb:CT}
theorem sw_and {rest:List Expr} (ha:PT X a (tOfT X.K ta)) (hb:PW X (.BoolOp .And (b::rest) pos) (tOfT X.K tb)):PW X (.BoolOp .And (a::b::rest) pos) (tOfT X.K (cAndT ta tb)):=(pw_and ha hb).weak (by
 rintro σ H Q ⟨μ,ρ,S,d,S',sr,re,e,y⟩
 obtain ⟨k,S1,e1,e⟩:=bnd_ok e
 refine ⟨μ,ρ,S,k,S1,sr,re,e1,fun H1 μ1 sr1 st1=>?_⟩
 cases k with
 | true=>rw [if_pos rfl] at e ⊢; exact ⟨μ1,ρ,S1,d,S',sr1,re.up st1,e,y.shift st1⟩
 | false=>rw [if_neg Bool.false_ne_true] at e ⊢; obtain ⟨rfl,rfl⟩:=ret_ok e; exact y H1 μ1 sr1 st1)
theorem sw_or {rest:List Expr} (ha:PT X a (tOfT X.K ta)) (hb:PW X (.BoolOp .Or (b::rest) pos) (tOfT X.K tb)):PW X (.BoolOp .Or (a::b::rest) pos) (tOfT X.K (cOrT ta tb)):=(pw_or ha hb).weak (by
 rintro σ H Q ⟨μ,ρ,S,d,S',sr,re,e,y⟩
 obtain ⟨k,S1,e1,e⟩:=bnd_ok e
 refine ⟨μ,ρ,S,k,S1,sr,re,e1,fun H1 μ1 sr1 st1=>?_⟩
 cases k with
 | false=>rw [if_neg Bool.false_ne_true] at e ⊢; exact ⟨μ1,ρ,S1,d,S',sr1,re.up st1,e,y.shift st1⟩
 | true=>rw [if_pos rfl] at e ⊢; obtain ⟨rfl,rfl⟩:=ret_ok e; exact y H1 μ1 sr1 st1)
theorem st_not (ha:PT X a (tOfT X.K ta)):PT X (.UnaryOp .Not a pos) (tOfT X.K (cNotT ta)):=(pt_not ha).weak (by
 rintro σ H Q ⟨μ,ρ,S,d,S',sr,re,e,y⟩
 obtain ⟨k,S1,e1,e⟩:=bnd_ok e
 obtain ⟨rfl,rfl⟩:=ret_ok e
 exact ⟨μ,ρ,S,k,_,sr,re,e1,fun H1 μ1 sr1 st1=>y H1 μ1 sr1 st1⟩)
noncomputable def dTru (x:D):M Bool:=fun S=>match x with
 | .non=>.ok false S
 | .bl b=>.ok b S
 | .int i=>.ok (i != 0) S
 | .str y=>if y.length≤sizeLine then .ok ((y.length:Int) != 0) S else .bad
 | .tup xs=>.ok (!xs.isEmpty) S
 | .lst n=>match S[n]? with
  | some (.lst xs)=>.ok (!xs.isEmpty) S
  | _=>.bad
 | .dct n=>match S[n]? with
  | some (.dk kvs)=>.ok (!kvs.isEmpty) S
  | _=>.bad
 | .ty _=>.bad
 | .rol xs=>.ok (!xs.isEmpty) S
noncomputable def cTru (a:C):CT:=fun ρ=>bnd (a ρ) dTru
theorem emp_of {K:W.Frag}{H:Hp}{μ:List Addr}{ds:List D}{vs:List V} (h:RVs K H μ ds vs):ds.isEmpty=vs.isEmpty:=by
 cases ds with
 | nil=>unfold RVs at h; subst h; rfl
 | cons d ds=>unfold RVs at h; obtain ⟨v,ws,rfl,_⟩:=h; rfl
theorem SR.get {K:W.Frag}{H:Hp}{μ:List Addr}{S:Store} (sr:SR K μ S H) {n:Nat}{a:Addr}{o:O} (h:μ[n]?=some a) (ho:S[n]?=some o):OR K H μ a o:=sr.obj n a o h ho
theorem dTru_ok {K:W.Frag}{H:Hp}{μ:List Addr}{S S':Store}{x:D}{v:V}{k:Bool} (e:dTru x S=.ok k S') (sr:SR K μ S H) (r:RV K H μ x v):S'=S∧TruV K v H k:=by
 unfold dTru at e
 cases x with
 | non=>cases e; unfold RV at r; subst r; exact ⟨rfl,rfl⟩
 | bl b=>cases e; unfold RV at r; subst r; exact ⟨rfl,rfl⟩
 | int i=>cases e; unfold RV at r; subst r; exact ⟨rfl,rfl⟩
 | str y =>
  unfold RV at r; subst r
  dsimp only at e
  split at e
  ·rename_i hl; cases e; exact ⟨rfl,hl,rfl⟩
  ·cases e
 | tup xs =>
  cases e; unfold RV at r; obtain ⟨p,vs,rfl,q,rr⟩:=r
  exact ⟨rfl,.inr (.inl ⟨vs,SqT.of q,by rw [emp_of rr]⟩)⟩
 | lst n =>
  unfold RV at r; obtain ⟨a,rfl,hm⟩:=r
  dsimp only at e
  split at e
  ·rename_i xs ho
   cases e
   obtain ⟨vs,hq,rr⟩:=sr.get hm ho
   exact ⟨rfl,.inl ⟨vs,SqL.of hq,by rw [emp_of rr]⟩⟩
  ·cases e
 | dct n =>
  unfold RV at r; obtain ⟨a,rfl,hm⟩:=r
  dsimp only at e
  split at e
  ·rename_i kvs ho
   cases e
   obtain ⟨ws,hq,rr⟩:=sr.get hm ho
   refine ⟨rfl,.inr (.inr ⟨ws,hq,?_⟩)⟩
   have:=emp_of rr.2
   rw [List.isEmpty_map,List.isEmpty_map] at this
   rw [this]
  ·cases e
 | ty _=>cases e
 | rol xs =>
  cases e; unfold RV at r; obtain ⟨p,vs,rfl,q,rr⟩:=r
  exact ⟨rfl,.inl ⟨vs,q.sq,by rw [emp_of rr]⟩⟩
theorem st_tru (ha:PE X a (tOf X.K ca)) (he:∀ whole,isTrue a X.env whole=(do let v ← whole; standAt a.pos; holding [v] (truthy v))):PT X a (tOfT X.K (cTru ca)):=(pt_truth ha he).weak (by
 rintro σ H Q ⟨μ,ρ,S,d,S',sr,re,e,y⟩
 obtain ⟨x,S1,e1,e⟩:=bnd_ok e
 refine ⟨μ,ρ,S,x,S1,sr,re,e1,fun v H1 μ1 sr1 st1 r1=>?_⟩
 obtain ⟨rfl,tv⟩:=dTru_ok e sr1 r1
 exact ⟨d,tv,y H1 μ1 sr1 st1⟩)
variable {es:List Expr}{cs:List C}
theorem sa_nil:PA X [] (tOfA X.K (cArgs [])):=pa_nil.weak (by
 rintro σ H Q ⟨μ,ρ,S,d,S',sr,re,e,y⟩
 obtain ⟨rfl,rfl⟩:=ret_ok e
 exact y [] H μ sr (Step.refl _ _ _) RVs.nil)
theorem sa_cons (ha:PE X a (tOf X.K ca)) (hr:PA X es (tOfA X.K (cArgs cs))) (hs:starEach (a::es) X.env=(false,eval a X.env)::starEach es X.env):PA X (a::es) (tOfA X.K (cArgs (ca::cs))):=(pa_cons ha hr hs).weak (by
 rintro σ H Q ⟨μ,ρ,S,d,S',sr,re,e,y⟩
 obtain ⟨x,S1,e1,e⟩:=bnd_ok e
 obtain ⟨xs,S2,e2,e⟩:=bnd_ok e
 obtain ⟨rfl,rfl⟩:=ret_ok e
 exact ⟨μ,ρ,S,x,S1,sr,re,e1,fun v H1 μ1 sr1 st1 r1=>⟨μ1,ρ,S1,xs,S',sr1,re.up st1,e2,fun vs H2 μ2 sr2 st2 r2=>y (v::vs) H2 μ2 sr2 (st1.trans st2 sr2.nd) (.cons (RV.up st2.tk st2.ext _ _ r1) r2)⟩⟩)
theorem cArgs_len {ρ:Env1}:∀ {cs:List C}{S S':Store}{xs:List D},cArgs cs ρ S=.ok xs S'→xs.length=cs.length
 | [],S,S',xs,e=>by obtain ⟨rfl,rfl⟩:=ret_ok e; rfl
 | c::cs,S,S',xs,e=>by
  obtain ⟨x,S1,e1,e⟩:=bnd_ok e
  obtain ⟨ys,S2,e2,e⟩:=bnd_ok e
  obtain ⟨rfl,rfl⟩:=ret_ok e
  rw [List.length_cons,List.length_cons,cArgs_len e2]
theorem new_tup {K:W.Frag}{H:Hp}{μ:List Addr}{S:Store}{ds:List D}{vs:List V}{p:Addr} (sr:SR K μ S H) (h:H p=none) (r:RVs K H μ ds vs):SR K μ S (upd H p (.tup vs))∧Step K μ μ H (upd H p (.tup vs))∧RV K (upd H p (.tup vs)) μ (.tup ds) (.ref p):=by
 obtain ⟨s1,s2⟩:=sr.other (o:=.tup vs) h
 exact ⟨s1,s2,by unfold RV; exact ⟨p,vs,rfl,upd_same,RVs.up s2.tk s2.ext _ _ r⟩⟩
theorem new_lst {K:W.Frag}{H:Hp}{μ:List Addr}{S:Store}{ds:List D}{vs:List V}{p:Addr} (sr:SR K μ S H) (h:H p=none) (r:RVs K H μ ds vs):SR K (μ++[p]) (S++[.lst ds]) (upd H p (.lst vs))∧Step K μ (μ++[p]) H (upd H p (.lst vs))∧RV K (upd H p (.lst vs)) (μ++[p]) (.lst S.length) (.ref p):=by
 obtain ⟨s1,s2⟩:=sr.push (o:=.lst vs) (o':=.lst ds) h ⟨vs,upd_same,RVs.up (tk_new h) ⟨[p],rfl⟩ _ _ r⟩
 exact ⟨s1,s2,by unfold RV; exact ⟨p,rfl,by rw [← sr.len,List.getElem?_append_right (Nat.le_refl _),Nat.sub_self]; rfl⟩⟩
theorem Yld.newL {K:W.Frag}{H:Hp}{μ:List Addr}{S:Store}{ds:List D}{vs:List V}{p:Addr}{Q:VK} (y:Yld K μ H (.lst S.length) (S++[.lst ds]) Q) (sr:SR K μ S H) (h:H p=none) (r:RVs K H μ ds vs):Q (.ref p) (upd H p (.lst vs)):=by
 obtain ⟨s1,s2,s3⟩:=new_lst sr h r
 exact y _ _ _ s1 s2 s3
theorem Yld.newT {K:W.Frag}{H:Hp}{μ:List Addr}{S:Store}{ds:List D}{vs:List V}{p:Addr}{Q:VK} (y:Yld K μ H (.tup ds) S Q) (sr:SR K μ S H) (h:H p=none) (r:RVs K H μ ds vs):Q (.ref p) (upd H p (.tup vs)):=by
 obtain ⟨s1,s2,s3⟩:=new_tup sr h r
 exact y _ _ _ s1 s2 s3
theorem se_tup {x1} (h:PA X es (tOfA X.K (cArgs cs))) (hl:cs.length≤1000):PE X (.Tuple es x1 pos) (tOf X.K (cTup (cArgs cs))):=(pe_tup h).weak (by
 rintro σ H Q ⟨μ,ρ,S,d,S',sr,re,e,y⟩
 obtain ⟨xs,S1,e1,e⟩:=bnd_ok e
 obtain ⟨rfl,rfl⟩:=ret_ok e
 refine ⟨μ,ρ,S,xs,S',sr,re,e1,fun vs H1 μ1 sr1 st1 r1=>⟨?_,fun p hp=>(y.shift st1).newT sr1 hp r1⟩⟩
 have h1:=cArgs_len e1
 have h2:=r1.len
 exact Nat.le_of_lt (small1000 (by omega)))
theorem se_lst (h:PA X es (tOfA X.K (cArgs cs))) (hl:cs.length≤1000):PE X (.List es pos) (tOf X.K (cLst (cArgs cs))):=(pe_lst h).weak (by
 rintro σ H Q ⟨μ,ρ,S,d,S',sr,re,e,y⟩
 obtain ⟨xs,S1,e1,e⟩:=bnd_ok e
 cases e
 refine ⟨μ,ρ,S,xs,S1,sr,re,e1,fun vs H1 μ1 sr1 st1 r1=>⟨?_,fun p hp=>(y.shift st1).newL sr1 hp r1⟩⟩
 have h1:=cArgs_len e1
 have h2:=r1.len
 exact Nat.le_of_lt (small1000 (by omega)))
theorem se_ix {o:D→D→M D} (ho:OpS X.K (ixAnyR X) o) (ha:PE X a (tOf X.K ca)) (hb:PE X b (tOf X.K cb)) (hs:PlainIx b):PE X (.Subscript a b pos) (tOf X.K (cBin o ca cb)):=(pe_ix ixAny ha hb hs).weak (of_bin ho)
noncomputable def CO:=Env1→M (Option Int)
noncomputable def cNoPart:CO:=fun _=>ret none
noncomputable def dInt (x:D):M Int:=match x with
 | .int i=>ret i
 | _=>bad
noncomputable def cPart (a:C):CO:=fun ρ=>bnd (a ρ) fun x=>bnd (dInt x) fun i=>ret (some i)
def YldO (K:W.Frag) (μ:List Addr) (H:Hp) (b:Option Int) (S':Store) (Q:Option Int→Hp→Prop):Prop:=∀ H' μ',SR K μ' S' H'→Step K μ μ' H H'→Q b H'
inductive tOfO (K:W.Frag) (c:CO) (σ:St) (H:Hp) (Q:Option Int→Hp→Prop):Prop
 | mk (μ:List Addr) (ρ:Env1) (S:Store) (d:Option Int) (S':Store) (sr:SR K μ S H) (re:RE K H μ ρ σ) (e:c ρ S=.ok d S') (y:YldO K μ H d S' Q)
theorem PO.weak {e:Option Expr}{t t':TO} (h:PO X e t) (w:∀ σ H Q,t' σ H Q→t σ H Q):PO X e t':=fun pins s σ H Q I q=>h pins s σ H Q I (w σ H Q q)
theorem so_none:PO X none (tOfO X.K cNoPart):=po_none.weak (by
 rintro σ H Q ⟨μ,ρ,S,d,S',sr,re,e,y⟩
 obtain ⟨rfl,rfl⟩:=ret_ok e
 exact y H μ sr (Step.refl _ _ _))
theorem so_some (ha:PE X a (tOf X.K ca)):PO X (some a) (tOfO X.K (cPart ca)):=(po_some ha).weak (by
 rintro σ H Q ⟨μ,ρ,S,d,S',sr,re,e,y⟩
 obtain ⟨x,S1,e1,e⟩:=bnd_ok e
 obtain ⟨i,S2,e2,e⟩:=bnd_ok e
 obtain ⟨rfl,rfl⟩:=ret_ok e
 refine ⟨μ,ρ,S,x,S1,sr,re,e1,fun v H1 μ1 sr1 st1 r1=>?_⟩
 cases x with
 | int j =>
  obtain ⟨rfl,rfl⟩:=ret_ok e2
  unfold RV at r1
  exact ⟨_,r1,y H1 μ1 sr1 st1⟩
 | _=>cases e2)
noncomputable def cSl (o:D→Option Int→Option Int→M D) (a:C) (lo hi:CO):C:=fun ρ=>bnd (a ρ) fun x=>bnd (lo ρ) fun l=>bnd (hi ρ) fun h=>o x l h
def SlS (K:W.Frag) (r:V→Option Int→Option Int→Hp→VK→Prop) (o:D→Option Int→Option Int→M D):Prop:=∀ x l h S d S' H μ v Q,o x l h S=.ok d S'→SR K μ S H→RV K H μ x v→Yld K μ H d S' Q→r v l h H Q
theorem se_slice {lo hi:Option Expr}{cl ch:CO}{p2:Pos}{o:D→Option Int→Option Int→M D} (ho:SlS X.K (slAnyR X) o) (ha:PE X a (tOf X.K ca)) (hl:PO X lo (tOfO X.K cl)) (hh:PO X hi (tOfO X.K ch)):PE X (.Subscript a (.Slice lo hi none p2) pos) (tOf X.K (cSl o ca cl ch)):=(pe_slice slAny ha hl hh).weak (by
 rintro σ H Q ⟨μ,ρ,S,d,S',sr,re,e,y⟩
 obtain ⟨x,S1,e1,e⟩:=bnd_ok e
 obtain ⟨l,S2,e2,e⟩:=bnd_ok e
 obtain ⟨h,S3,e3,e⟩:=bnd_ok e
 refine ⟨μ,ρ,S,x,S1,sr,re,e1,fun v H1 μ1 sr1 st1 r1=>⟨μ1,ρ,S1,l,S2,sr1,re.up st1,e2,fun H2 μ2 sr2 st2=>?_⟩⟩
 have st12:=st1.trans st2 sr2.nd
 refine ⟨μ2,ρ,S2,h,S3,sr2,re.up st12,e3,fun H3 μ3 sr3 st3=>?_⟩
 exact ho x l h S3 d S' H3 μ3 v Q e sr3 (RV.up st3.tk st3.ext _ _ (RV.up st2.tk st2.ext _ _ r1)) (y.shift (st12.trans st3 sr3.nd)))
def CallS (K:W.Frag) (r:List V→Hp→VK→Prop) (o:List D→M D):Prop:=∀ xs S d S' H μ vs Q,o xs S=.ok d S'→SR K μ S H→RVs K H μ xs vs→Yld K μ H d S' Q→r vs H Q
variable {ca':CA}
theorem of_app {r:List V→Hp→VK→Prop}{o:List D→M D} (ho:CallS X.K r o):∀ σ H Q,tOf X.K (cApp o ca') σ H Q→tCB r (tOfA X.K ca') σ H Q:=by
 rintro σ H Q ⟨μ,ρ,S,d,S',sr,re,e,y⟩
 obtain ⟨xs,S1,e1,e⟩:=bnd_ok e
 exact ⟨μ,ρ,S,xs,S1,sr,re,e1,fun vs H1 μ1 sr1 st1 r1=>ho xs S1 d S' H1 μ1 vs Q e sr1 r1 (y.shift st1)⟩
noncomputable def spOf (K:W.Frag) (φ:List D→M D) (n:Nat):Sp:=fun vs H Q E=>vs.length=n∧∃ μ ds S d S',SR K μ S H∧RVs K H μ ds vs∧φ ds S=.ok d S'∧Yld K μ H d S' Q
theorem of_call {φ:List D→M D}{n:Nat} (hn:∀ ds S d S',φ ds S=.ok d S'→ds.length=n):∀ σ H Q,tOf X.K (cApp φ ca') σ H Q→tCall (spOf X.K φ n) [] E0 (tOfA X.K ca') σ H Q:=by
 rintro σ H Q ⟨μ,ρ,S,d,S',sr,re,e,y⟩
 obtain ⟨xs,S1,e1,e⟩:=bnd_ok e
 refine ⟨μ,ρ,S,xs,S1,sr,re,e1,fun vs H1 μ1 sr1 st1 r1=>?_⟩
 rw [List.append_nil]
 exact ⟨by rw [← r1.len]; exact hn _ _ _ _ e,μ1,xs,S1,d,S',sr1,r1,e,y.shift st1⟩
end
open PySem PySem.Spec PyProof.Rows
noncomputable def lim:Nat:=1048576
theorem lim_le {n:Nat} (h:n≤lim):n≤sizeLine:=Nat.le_trans h (by decide)
theorem lim_lt {n:Nat} (h:n<lim):n<sizeLine:=Nat.lt_of_lt_of_le h (by decide)
section
variable {K:W.Frag}{H H' H1:Hp}{μ:List Addr}{S:Store}
theorem SR.same (sr:SR K μ S H) (sm:Same H H1):SR K μ S H1∧Step K μ μ H H1:=by
 have tk:TF K H H1:=tf_same sm
 refine ⟨⟨sr.len,sr.nd,fun n a o e1 e2=>?_⟩,⟨⟨[],by simp,by simp⟩,fun b o _ h=>sm b o h,tk⟩⟩
 obtain ⟨u,hu⟩:=sr.isS (List.mem_of_getElem? e1)
 exact (sr.obj n a o e1 e2).up tk ⟨[],by simp⟩ (by rw [hu]; exact sm _ _ hu)
theorem Yld.oldT {ds:List D}{vs:List V}{p:Addr}{Q:VK} (y:Yld K μ H (.tup ds) S Q) (sr:SR K μ S H) (sm:Same H H1) (h:H1 p=some (.tup vs)) (r:RVs K H μ ds vs):Q (.ref p) H1:=by
 obtain ⟨s1,s2⟩:=sr.same sm
 exact y _ _ _ s1 s2 (by unfold RV; exact ⟨p,vs,rfl,h,RVs.up s2.tk s2.ext _ _ r⟩)
theorem rv_int {i:Int}:RV K H μ (.int i) (.int i):=by unfold RV; rfl
theorem rv_bl {i:Bool}:RV K H μ (.bl i) (.bl i):=by unfold RV; rfl
theorem rv_non:RV K H μ .non .non:=by unfold RV; rfl
theorem rv_str {i:Str}:RV K H μ (.str i) (.str i):=by unfold RV; rfl
theorem SR.lst (sr:SR K μ S H) {n:Nat}{a:Addr}{xs:List D} (h:μ[n]?=some a) (ho:S[n]?=some (.lst xs)):∃ vs,H a=some (.lst vs)∧RVs K H μ xs vs:=sr.obj n a _ h ho
noncomputable def lstAt (S:Store) (n:Nat):Option (List D):=match S[n]? with
 | some (.lst xs)=>some xs
 | _=>none
theorem SR.sq (sr:SR K μ S H) {n:Nat}{a:Addr}{xs:List D} (h:μ[n]?=some a) (ho:lstAt S n=some xs):∃ vs,SqL K H a vs∧RVs K H μ xs vs:=by
 unfold lstAt at ho
 split at ho
 ·rename_i ys e; cases ho
  obtain ⟨vs,q,r⟩:=sr.get h e
  exact ⟨vs,SqL.of q,r⟩
 ·cases ho
noncomputable def seqAt (S:Store):D→Option (List D)
 | .tup xs=>some xs
 | .lst n=>lstAt S n
 | .rol xs=>some xs
 | _=>none
theorem SR.seq (sr:SR K μ S H) {x:D}{v:V}{xs:List D} (r:RV K H μ x v) (ho:seqAt S x=some xs):∃ a vs,v=.ref a∧(SqL K H a vs∨SqT K H a vs)∧RVs K H μ xs vs:=by
 unfold seqAt at ho
 split at ho
 ·cases ho
  unfold RV at r; obtain ⟨p,vs,rfl,q,rr⟩:=r
  exact ⟨p,vs,rfl,.inr (SqT.of q),rr⟩
 ·unfold RV at r; obtain ⟨a,rfl,hm⟩:=r
  obtain ⟨vs,q,rr⟩:=sr.sq hm ho
  exact ⟨a,vs,rfl,.inl q,rr⟩
 ·cases ho
  unfold RV at r; obtain ⟨p,vs,rfl,q,rr⟩:=r
  exact ⟨p,vs,rfl,.inl q.sq,rr⟩
 ·cases ho
theorem RVs.cons_inv {d:D}{ds:List D}{vs:List V} (h:RVs K H μ (d::ds) vs):∃ v ws,vs=v::ws∧RV K H μ d v∧RVs K H μ ds ws:=by unfold RVs at h; exact h
theorem RVs.nil_inv {vs:List V} (h:RVs K H μ [] vs):vs=[]:=by unfold RVs at h; exact h
end
noncomputable def oInt (g:Int→Int→Int):D→D→M D
 | .int i,.int j=>ret (.int (g i j))
 | _,_=>bad
noncomputable def oAdd:D→D→M D
 | .int i,.int j=>ret (.int (i+j))
 | .tup xs,.tup ys=>fun S=>if xs.length+ys.length≤lim then .ok (.tup (xs++ys)) S else .bad
 | .lst n,.lst m=>fun S=>match S[n]?,S[m]? with
  | some (.lst xs),some (.lst ys)=>if xs.length+ys.length≤lim then .ok (.lst S.length) (S++[.lst (xs++ys)]) else .bad
  | _,_=>.bad
 | .str x,.str y=>fun S=>if x.length+y.length≤lim then .ok (.str (x++y)) S else .bad
 | _,_=>bad
noncomputable def mulOk (i j:Int):Bool:=(decide (-18446744073709551616<i)&&decide (i<18446744073709551616))||(decide (-18446744073709551616<j)&&decide (j<18446744073709551616))
noncomputable def oMul:D→D→M D
 | .int i,.int j=>fun S=>if mulOk i j then .ok (.int (i*j)) S else .bad
 | _,_=>bad
noncomputable def oMod:D→D→M D
 | .int i,.int j=>fun S=>if 0<j then .ok (.int (i % j)) S else .bad
 | _,_=>bad
noncomputable def oDiv:D→D→M D
 | .int i,.int j=>fun S=>if 0<j∧j<1073741824 then .ok (.int (i / j)) S else .bad
 | _,_=>bad
noncomputable def oPow:D→D→M D
 | .int i,.int j=>fun S=>if 0≤j∧j≤1000000∧i.natAbs<18446744073709551616 then .ok (.int (i ^ j.toNat)) S else .bad
 | _,_=>bad
noncomputable def oShl:D→D→M D
 | .int i,.int j=>fun S=>if 0≤j∧j≤1000000∧i.natAbs<18446744073709551616 then .ok (.int (i*2 ^ j.toNat)) S else .bad
 | _,_=>bad
noncomputable def oShr:D→D→M D
 | .int i,.int j=>fun S=>if 0≤j then .ok (.int (i / 2 ^ j.toNat)) S else .bad
 | _,_=>bad
noncomputable def oNeg:D→M D
 | .int i=>ret (.int (-i))
 | _=>bad
section
variable {X:Cx}
theorem os_int {op:Operator}{g:Int→Int→Int} (h:OpR X (binaryOp op) (rI0 fun i j=>.int (g i j))):OpS X.K (rAny X (binaryOp op)) (oInt g):=by
 intro x y S d S' H μ v u Q e sr rx ry h'
 unfold oInt at e
 split at e
 ·obtain ⟨rfl,rfl⟩:=ret_ok e
  unfold RV at rx ry; subst rx ry
  exact ⟨_,h,_,_,rfl,rfl,h'.self sr rv_int⟩
 ·cases e
theorem os_sub:OpS X.K (rAny X (binaryOp .Sub)) (oInt fun i j=>i - j):=os_int op_sub
theorem os_and:OpS X.K (rAny X (binaryOp .BitAnd)) (oInt Builtin.bitAnd):=os_int op_and
theorem os_or:OpS X.K (rAny X (binaryOp .BitOr)) (oInt Builtin.bitOr):=os_int op_or
theorem os_xor:OpS X.K (rAny X (binaryOp .BitXor)) (oInt Builtin.bitXor):=os_int op_xor
theorem os_add:OpS X.K (rAny X (binaryOp .Add)) oAdd:=by
 intro x y S d S' H μ v u Q e sr rx ry h
 unfold oAdd at e
 split at e
 ·obtain ⟨rfl,rfl⟩:=ret_ok e
  unfold RV at rx ry; subst rx ry
  exact ⟨_,op_add,_,_,rfl,rfl,h.self sr rv_int⟩
 ·try dsimp only at e
  split at e
  ·rename_i hl; cases e
   unfold RV at rx ry
   obtain ⟨p,vs,rfl,q1,r1⟩:=rx
   obtain ⟨p2,ws,rfl,q2,r2⟩:=ry
   exact ⟨_,op_catT2,p,p2,vs,ws,rfl,rfl,q1,q2,by rw [← r1.len,← r2.len]; exact lim_le hl,fun p3 H1 sm sq=>h.oldT sr sm sq (r1.append r2)⟩
  ·cases e
 ·try dsimp only at e
  unfold RV at rx ry
  obtain ⟨p,rfl,m1⟩:=rx
  obtain ⟨p2,rfl,m2⟩:=ry
  split at e
  ·rename_i xs ys o1 o2
   split at e
   ·rename_i hl; cases e
    obtain ⟨vs,q1,r1⟩:=sr.lst m1 o1
    obtain ⟨ws,q2,r2⟩:=sr.lst m2 o2
    exact ⟨_,op_cat,p,p2,vs,ws,rfl,rfl,q1,q2,by rw [← r1.len,← r2.len]; exact lim_le hl,fun p3 hp=>h.newL sr hp (r1.append r2)⟩
   ·cases e
  ·cases e
 ·try dsimp only at e
  split at e
  ·rename_i hl; cases e
   unfold RV at rx ry; subst rx ry
   exact ⟨_,op_add_str,_,_,rfl,rfl,lim_le hl,h.self sr rv_str⟩
  ·cases e
 ·cases e
theorem mulOk_c {i j:Int} (h:mulOk i j=true):CMul i j:=by
 unfold mulOk at h
 simp only [Bool.or_eq_true,Bool.and_eq_true,decide_eq_true_eq] at h
 exact h
theorem os_mul:OpS X.K (rAny X (binaryOp .Mult)) oMul:=by
 intro x y S d S' H μ v u Q e sr rx ry h
 unfold oMul at e
 split at e
 ·try dsimp only at e
  split at e
  ·rename_i hl; cases e
   unfold RV at rx ry; subst rx ry
   exact ⟨_,op_mul,_,_,rfl,rfl,mulOk_c hl,h.self sr rv_int⟩
  ·cases e
 ·cases e
theorem os_mod:OpS X.K (rAny X (binaryOp .Mod)) oMod:=by
 intro x y S d S' H μ v u Q e sr rx ry h
 unfold oMod at e
 split at e
 ·try dsimp only at e
  split at e
  ·rename_i hl; cases e
   unfold RV at rx ry; subst rx ry
   exact ⟨_,op_mod,_,_,rfl,rfl,hl,h.self sr rv_int⟩
  ·cases e
 ·cases e
theorem os_div:OpS X.K (rAny X (binaryOp .FloorDiv)) oDiv:=by
 intro x y S d S' H μ v u Q e sr rx ry h
 unfold oDiv at e
 split at e
 ·try dsimp only at e
  split at e
  ·rename_i hl; cases e
   unfold RV at rx ry; subst rx ry
   exact ⟨_,op_fdiv,_,_,rfl,rfl,hl,h.self sr rv_int⟩
  ·cases e
 ·cases e
theorem os_pow:OpS X.K (rAny X (binaryOp .Pow)) oPow:=by
 intro x y S d S' H μ v u Q e sr rx ry h
 unfold oPow at e
 split at e
 ·try dsimp only at e
  split at e
  ·rename_i hl; cases e
   unfold RV at rx ry; subst rx ry
   exact ⟨_,op_pow,_,_,rfl,rfl,hl,h.self sr rv_int⟩
  ·cases e
 ·cases e
theorem os_shl:OpS X.K (rAny X (binaryOp .LShift)) oShl:=by
 intro x y S d S' H μ v u Q e sr rx ry h
 unfold oShl at e
 split at e
 ·try dsimp only at e
  split at e
  ·rename_i hl; cases e
   unfold RV at rx ry; subst rx ry
   exact ⟨_,op_shl,_,_,rfl,rfl,hl,h.self sr rv_int⟩
  ·cases e
 ·cases e
theorem os_shr:OpS X.K (rAny X (binaryOp .RShift)) oShr:=by
 intro x y S d S' H μ v u Q e sr rx ry h
 unfold oShr at e
 split at e
 ·try dsimp only at e
  split at e
  ·rename_i hl; cases e
   unfold RV at rx ry; subst rx ry
   exact ⟨_,op_shr,_,_,rfl,rfl,hl,h.self sr rv_int⟩
  ·cases e
 ·cases e
theorem us_neg:UnS X.K (uAny X (unaryOp .USub)) oNeg:=by
 intro x S d S' H μ v Q e sr rx h
 unfold oNeg at e
 split at e
 ·obtain ⟨rfl,rfl⟩:=ret_ok e
  unfold RV at rx; subst rx
  exact ⟨_,un_neg,_,rfl,h.self sr rv_int⟩
 ·cases e
noncomputable def oCmp (g:Int→Int→Bool):D→D→M D
 | .int i,.int j=>ret (.bl (g i j))
 | _,_=>bad
theorem os_cmp {op:CmpOp}{g:Int→Int→Bool} (h:OpR X (compareOp op) (rI0 fun i j=>.bl (g i j))):OpS X.K (rAny X (compareOp op)) (oCmp g):=by
 intro x y S d S' H μ v u Q e sr rx ry h'
 unfold oCmp at e
 split at e
 ·obtain ⟨rfl,rfl⟩:=ret_ok e
  unfold RV at rx ry; subst rx ry
  exact ⟨_,h,_,_,rfl,rfl,h'.self sr rv_bl⟩
 ·cases e
theorem os_le:OpS X.K (rAny X (compareOp .LtE)) (oCmp fun i j=>decide (i≤j)):=os_cmp op_le
theorem os_gt:OpS X.K (rAny X (compareOp .Gt)) (oCmp fun i j=>decide (j<i)):=os_cmp op_gt
theorem os_ge:OpS X.K (rAny X (compareOp .GtE)) (oCmp fun i j=>decide (j≤i)):=os_cmp op_ge
noncomputable def intsOf:List D→Option (List Int)
 | []=>some []
 | .int i::r=>(intsOf r).map (i::·)
 | _::_=>none
theorem intsOf_vs {K:W.Frag}{H:Hp}{μ:List Addr}:∀ {ds:List D}{ns:List Int}{vs:List V},intsOf ds=some ns→RVs K H μ ds vs→vs=ns.map V.int
 | [],ns,vs,e,r=>by cases e; rw [r.nil_inv]; rfl
 | .int i::ds,ns,vs,e,r=>by
  obtain ⟨v,ws,rfl,r1,r2⟩:=r.cons_inv
  unfold intsOf at e
  cases q:intsOf ds with
  | none=>rw [q] at e; cases e
  | some ms =>
   rw [q] at e; cases e
   unfold RV at r1; subst r1
   rw [intsOf_vs q r2]; rfl
 | .non::ds,ns,vs,e,r=>by cases e
 | .bl _::ds,ns,vs,e,r=>by cases e
 | .str _::ds,ns,vs,e,r=>by cases e
 | .ty _::ds,ns,vs,e,r=>by cases e
 | .tup _::ds,ns,vs,e,r=>by cases e
 | .lst _::ds,ns,vs,e,r=>by cases e
 | .dct _::ds,ns,vs,e,r=>by cases e
 | .rol _::ds,ns,vs,e,r=>by cases e
noncomputable def oLt:D→D→M D
 | .int i,.int j=>ret (.bl (decide (i<j)))
 | _,_=>bad
theorem os_lt (hu:X.A.units<cLine):OpS X.K (rAny X (compareOp .Lt)) oLt:=by
 intro x y S d S' H μ v u Q e sr rx ry h
 unfold oLt at e
 split at e
 ·obtain ⟨rfl,rfl⟩:=ret_ok e
  unfold RV at rx ry; subst rx ry
  exact ⟨_,op_lt,_,_,rfl,rfl,h.self sr rv_bl⟩
 ·cases e
noncomputable def snap:Nat→Store→D→Option PyData
 | 0,_,_=>none
 | n+1,S,d=>match d with
  | .non=>some .none
  | .bl b=>some (.bool b)
  | .int i=>some (.int i)
  | .str x=>if PyData.strOk x then some (.str x) else none
  | .tup xs=>(xs.mapM (snap n S)).map .tuple
  | .lst k=>match lstAt S k with
   | some xs=>(xs.mapM (snap n S)).map .list
   | none=>none
  | _=>none
theorem snapL {K:W.Frag}{H:Hp}{μ:List Addr}{S:Store}{n:Nat} (ih:∀ d v p,snap n S d=some p→RV K H μ d v→Rp K H (fun _=>True) v p∧p.canLay0=true∧p.depth≤n):∀ (xs:List D) (vs:List V) (ps:List PyData),xs.mapM (snap n S)=some ps→RVs K H μ xs vs→RpL K H (fun _=>True) vs ps∧PyData.canLayAll0 ps=true∧PyData.depthAll ps≤n
 | [],vs,ps,e,r=>by
  simp at e; subst e
  rw [r.nil_inv]
  exact ⟨.nil,rfl,Nat.zero_le _⟩
 | d::ds,vs,ps,e,r=>by
  obtain ⟨v,ws,rfl,r1,r2⟩:=r.cons_inv
  rw [List.mapM_cons] at e
  cases q:snap n S d with
  | none=>rw [q] at e; cases e
  | some p =>
   cases q2:ds.mapM (snap n S) with
   | none=>rw [q,q2] at e; cases e
   | some ps' =>
    rw [q,q2] at e
    cases e
    obtain ⟨a1,a2,a3⟩:=ih d v p q r1
    obtain ⟨b1,b2,b3⟩:=snapL ih ds ws ps' q2 r2
    refine ⟨.cons a1 b1,?_,?_⟩
    ·show (PyData.canLay0 p&&PyData.canLayAll0 ps')=true
     rw [a2,b2]; rfl
    ·show max p.depth (PyData.depthAll ps')≤n
     omega
theorem snap_ok {K:W.Frag}{H:Hp}{μ:List Addr}{S:Store} (sr:SR K μ S H):∀ (n:Nat) (d:D) (v:V) (p:PyData),snap n S d=some p→RV K H μ d v→Rp K H (fun _=>True) v p∧p.canLay0=true∧p.depth≤n
 | 0,d,v,p,e,r=>by cases e
 | n+1,d,v,p,e,r=>by
  unfold snap at e
  cases d with
  | non=>cases e; unfold RV at r; subst r; exact ⟨.non,rfl,Nat.zero_le _⟩
  | bl b=>cases e; unfold RV at r; subst r; exact ⟨.bl b,rfl,Nat.zero_le _⟩
  | int i=>cases e; unfold RV at r; subst r; exact ⟨.int i,rfl,Nat.zero_le _⟩
  | str x =>
   dsimp only at e
   split at e
   ·rename_i hs; cases e; unfold RV at r; subst r; exact ⟨.str x,hs,Nat.zero_le _⟩
   ·cases e
  | tup xs =>
   dsimp only at e
   cases q:xs.mapM (snap n S) with
   | none=>rw [q] at e; cases e
   | some ps =>
    rw [q] at e; cases e
    unfold RV at r; obtain ⟨a,vs,rfl,hq,rr⟩:=r
    obtain ⟨b1,b2,b3⟩:=snapL (fun d v p e r=>snap_ok sr n d v p e r) xs vs ps q rr
    exact ⟨.tup (SqT.of hq) b1,b2,Nat.succ_le_succ b3⟩
  | lst k =>
   dsimp only at e
   split at e
   ·rename_i xs hx
    cases q:xs.mapM (snap n S) with
    | none=>rw [q] at e; cases e
    | some ps =>
     rw [q] at e; cases e
     unfold RV at r; obtain ⟨a,rfl,hm⟩:=r
     obtain ⟨vs,hq,rr⟩:=sr.sq hm hx
     obtain ⟨b1,b2,b3⟩:=snapL (fun d v p e r=>snap_ok sr n d v p e r) xs vs ps q rr
     exact ⟨.lst True.intro hq b1,b2,Nat.succ_le_succ b3⟩
   ·cases e
  | dct k=>cases e
  | ty k=>cases e
  | rol k=>cases e
noncomputable def oEq:D→D→M D:=fun x y S=>match x,y with
 | .str a,.str b=>.ok (.bl (decide (a=b))) S
 | _,_=>match snap 40 S x,snap 40 S y with
  | some p,some q=>.ok (.bl (PyData.eqv p q)) S
  | _,_=>.bad
noncomputable def oNe:D→D→M D:=fun x y S=>match x,y with
 | .str a,.str b=>.ok (.bl (!decide (a=b))) S
 | _,_=>match snap 40 S x,snap 40 S y with
  | some p,some q=>.ok (.bl (!PyData.eqv p q)) S
  | _,_=>.bad
theorem os_eq (hu:X.A.units+64<cLine):OpS X.K (rAny X (compareOp .Eq)) oEq:=by
 intro x y S d S' H μ v u Q e sr rx ry h
 unfold oEq at e
 split at e
 ·rename_i a b
  cases e
  unfold RV at rx ry; subst rx ry
  refine ⟨_,op_eq,rfl,?_⟩
  have z:decide (V.str a=V.str b)=decide (a=b):=by simp
  rw [z]
  exact h.self sr rv_bl
 ·split at e
  ·rename_i p q e1 e2
   cases e
   obtain ⟨a1,a2,a3⟩:=snap_ok sr 40 x v p e1 rx
   obtain ⟨b1,b2,b3⟩:=snap_ok sr 40 y u q e2 ry
   exact ⟨_,op_eqD hu,_,_,p,q,a1,b1,⟨a2,by omega⟩,⟨b2,by omega⟩,h.self sr rv_bl⟩
  ·cases e
theorem os_ne (hu:X.A.units+64<cLine):OpS X.K (rAny X (compareOp .NotEq)) oNe:=by
 intro x y S d S' H μ v u Q e sr rx ry h
 unfold oNe at e
 split at e
 ·rename_i a b
  cases e
  unfold RV at rx ry; subst rx ry
  refine ⟨_,op_ne,rfl,?_⟩
  have z:decide (V.str a=V.str b)=decide (a=b):=by simp
  rw [z]
  exact h.self sr rv_bl
 ·split at e
  ·rename_i p q e1 e2
   cases e
   obtain ⟨a1,a2,a3⟩:=snap_ok sr 40 x v p e1 rx
   obtain ⟨b1,b2,b3⟩:=snap_ok sr 40 y u q e2 ry
   exact ⟨_,op_neD hu,_,_,p,q,a1,b1,⟨a2,by omega⟩,⟨b2,by omega⟩,h.self sr rv_bl⟩
  ·cases e
noncomputable def D.isNon:D→Bool
 | .non=>true
 | _=>false
theorem isNon_v {K:W.Frag}{H:Hp}{μ:List Addr}{x:D}{v:V} (r:RV K H μ x v):decide (v=.non)=x.isNon:=by
 cases x with
 | non=>unfold RV at r; subst r; rfl
 | bl _=>unfold RV at r; subst r; rfl
 | int _=>unfold RV at r; subst r; rfl
 | str _=>unfold RV at r; subst r; rfl
 | ty _=>unfold RV at r; subst r; rfl
 | tup _=>unfold RV at r; obtain ⟨_,_,rfl,_⟩:=r; rfl
 | lst _=>unfold RV at r; obtain ⟨_,rfl,_⟩:=r; rfl
 | dct _=>unfold RV at r; obtain ⟨_,rfl,_⟩:=r; rfl
 | rol _=>unfold RV at r; obtain ⟨_,_,rfl,_⟩:=r; rfl
noncomputable def oIs:D→D→M D
 | x,.non=>ret (.bl x.isNon)
 | .bl a,.bl b=>ret (.bl (a == b))
 | _,_=>bad
noncomputable def oIsNot:D→D→M D
 | x,.non=>ret (.bl (!x.isNon))
 | .bl a,.bl b=>ret (.bl (a != b))
 | _,_=>bad
theorem os_is:OpS X.K (rAny X (compareOp .Is)) oIs:=by
 intro x y S d S' H μ v u Q e sr rx ry h
 unfold oIs at e
 split at e
 ·obtain ⟨rfl,rfl⟩:=ret_ok e
  unfold RV at ry
  exact ⟨_,op_isN,ry,by rw [isNon_v rx]; exact h.self sr rv_bl⟩
 ·obtain ⟨rfl,rfl⟩:=ret_ok e
  unfold RV at rx ry; subst rx ry
  exact ⟨_,op_is_bl,_,_,rfl,rfl,h.self sr rv_bl⟩
 ·cases e
theorem os_isNot:OpS X.K (rAny X (compareOp .IsNot)) oIsNot:=by
 intro x y S d S' H μ v u Q e sr rx ry h
 unfold oIsNot at e
 split at e
 ·obtain ⟨rfl,rfl⟩:=ret_ok e
  unfold RV at ry
  exact ⟨_,op_notN,ry,by rw [isNon_v rx]; exact h.self sr rv_bl⟩
 ·obtain ⟨rfl,rfl⟩:=ret_ok e
  unfold RV at rx ry; subst rx ry
  exact ⟨_,op_isnot_bl,_,_,rfl,rfl,h.self sr rv_bl⟩
 ·cases e
noncomputable def flat:D→Option V
 | .non=>some .non
 | .bl b=>some (.bl b)
 | .int i=>some (.int i)
 | .str x=>some (.str x)
 | _=>none
theorem flat_v {K:W.Frag}{H:Hp}{μ:List Addr}{x:D}{v w:V} (e:flat x=some w) (r:RV K H μ x v):v=w:=by
 cases x with
 | non=>cases e; unfold RV at r; exact r
 | bl _=>cases e; unfold RV at r; exact r
 | int _=>cases e; unfold RV at r; exact r
 | str _=>cases e; unfold RV at r; exact r
 | _=>cases e
theorem flats_v {K:W.Frag}{H:Hp}{μ:List Addr}:∀ {ds:List D}{vs ws:List V},ds.mapM flat=some ws→RVs K H μ ds vs→vs=ws
 | [],vs,ws,e,r=>by simp at e; subst e; exact r.nil_inv
 | d::ds,vs,ws,e,r=>by
  obtain ⟨v,us,rfl,r1,r2⟩:=r.cons_inv
  rw [List.mapM_cons] at e
  cases q:flat d with
  | none=>rw [q] at e; cases e
  | some w =>
   cases q2:ds.mapM flat with
   | none=>rw [q,q2] at e; cases e
   | some ws' =>
    rw [q,q2] at e; cases e
    rw [flat_v q r1,flats_v q2 r2]
noncomputable def keyOf:D→Option Key
 | .int i=>some (.inl i)
 | .str x=>some (.inr x)
 | _=>none
theorem keyOf_v {K:W.Frag}{H:Hp}{μ:List Addr}{x:D}{v:V}{k:Key} (e:keyOf x=some k) (r:RV K H μ x v):v=kV k:=by
 cases x with
 | int _=>cases e; unfold RV at r; exact r
 | str _=>cases e; unfold RV at r; exact r
 | _=>cases e
noncomputable def valD {κ:Type} [DecidableEq κ] (kvs:List (κ × D)) (k:κ):Option D:=(kvs.find? fun kv=>decide (kv.1=k)).map (·.2)
noncomputable def putD {κ:Type} [DecidableEq κ] (kvs:List (κ × D)) (k:κ) (v:D):List (κ × D) :=
 if (kvs.any fun kv=>decide (kv.1=k))=true then kvs.map (fun kv=>if kv.1=k then (kv.1,v) else kv) else kvs++[(k,v)]
section
variable {κ:Type} [DecidableEq κ] {K:W.Frag}{H:Hp}{μ:List Addr}
theorem RKs.cons_inv {p:κ × D}{kvs:List (κ × D)}{ws:List (κ × V)} (h:RKs K H μ (p::kvs) ws):∃ q us,ws=q::us∧p.1=q.1∧RV K H μ p.2 q.2∧RKs K H μ kvs us:=by
 obtain ⟨h1,h2⟩:=h
 rw [List.map_cons] at h1 h2
 obtain ⟨v,vs,e,r1,r2⟩:=h2.cons_inv
 cases ws with
 | nil=>simp at h1
 | cons q us =>
  rw [List.map_cons] at h1 e
  cases e
  rw [List.cons.injEq] at h1
  exact ⟨q,us,rfl,h1.1,r1,h1.2,r2⟩
theorem RKs.val {k:κ}:∀ {kvs:List (κ × D)}{ws:List (κ × V)},RKs K H μ kvs ws→(∀ d,valD kvs k=some d→∃ v,valV ws k=some v∧RV K H μ d v)∧(valD kvs k=none→valV ws k=none)
 | [],ws,h=>by
  have:ws=[]:=by have:=h.1; cases ws with | nil=>rfl | cons a b=>simp at this
  subst this
  exact ⟨fun d e=>(by cases e),fun _=>rfl⟩
 | p::kvs,ws,h=>by
  obtain ⟨q,us,rfl,e1,r1,r2⟩:=h.cons_inv
  obtain ⟨i1,i2⟩:=RKs.val (k:=k) r2
  by_cases hk:p.1=k
  ·have e2:valD (p::kvs) k=some p.2:=by simp [valD,List.find?_cons,hk]
   rw [e2,valV_pos (e1▸hk)]
   exact ⟨fun d e=>by cases e; exact ⟨_,rfl,r1⟩,fun e=>by cases e⟩
  ·have e2:valD (p::kvs) k=valD kvs k:=by simp [valD,List.find?_cons,hk]
   rw [e2,valV_neg (e1▸hk)]
   exact ⟨i1,i2⟩
theorem RKs.nil:RKs K H μ ([]:List (κ × D)) []:=⟨rfl,RVs.nil⟩
theorem RKs.cons {k:κ}{d:D}{v:V}{kvs:List (κ × D)}{ws:List (κ × V)} (r:RV K H μ d v) (h:RKs K H μ kvs ws):RKs K H μ ((k,d)::kvs) ((k,v)::ws):=⟨by rw [List.map_cons,List.map_cons,h.1],by rw [List.map_cons,List.map_cons]; exact .cons r h.2⟩
theorem RKs.any {k:κ}:∀ {kvs:List (κ × D)}{ws:List (κ × V)},RKs K H μ kvs ws→(kvs.any fun kv=>decide (kv.1=k))=(ws.any fun kv=>decide (kv.1=k))
 | [],ws,h=>by
  have:ws=[]:=by have:=h.1; cases ws with | nil=>rfl | cons a b=>simp at this
  subst this; rfl
 | p::kvs,ws,h=>by
  obtain ⟨q,us,rfl,e1,r1,r2⟩:=h.cons_inv
  rw [List.any_cons,List.any_cons,RKs.any r2,e1]
theorem RKs.mapSet {k:κ}{d:D}{v:V} (rv:RV K H μ d v):∀ {kvs:List (κ × D)}{ws:List (κ × V)},RKs K H μ kvs ws→RKs K H μ (kvs.map (fun kv=>if kv.1=k then (kv.1,d) else kv)) (ws.map (fun kv=>if kv.1=k then (kv.1,v) else kv))
 | [],ws,h=>by
  have:ws=[]:=by have:=h.1; cases ws with | nil=>rfl | cons a b=>simp at this
  subst this; exact .nil
 | p::kvs,ws,h=>by
  obtain ⟨q,us,rfl,e1,r1,r2⟩:=h.cons_inv
  rw [List.map_cons,List.map_cons]
  obtain ⟨p1,p2⟩:=p
  obtain ⟨q1,q2⟩:=q
  dsimp only at e1 r1 ⊢
  subst e1
  by_cases hk:p1=k
  ·rw [if_pos hk,if_pos hk]; exact .cons rv (RKs.mapSet rv r2)
  ·rw [if_neg hk,if_neg hk]; exact .cons r1 (RKs.mapSet rv r2)
theorem RKs.append {as:List (κ × D)}{bs:List (κ × V)}{cs:List (κ × D)}{ds:List (κ × V)} (h:RKs K H μ as bs) (g:RKs K H μ cs ds):RKs K H μ (as++cs) (bs++ds):=⟨by rw [List.map_append,List.map_append,h.1,g.1],by rw [List.map_append,List.map_append]; exact h.2.append g.2⟩
theorem RKs.put {k:κ}{d:D}{v:V} (rv:RV K H μ d v) {kvs:List (κ × D)}{ws:List (κ × V)} (h:RKs K H μ kvs ws):RKs K H μ (putD kvs k d) (putK ws k v):=by
 unfold putD putK
 rw [h.any (k:=k)]
 by_cases hc:(ws.any fun kv=>decide (kv.1=k))=true
 ·rw [if_pos hc,if_pos hc]; exact h.mapSet rv
 ·rw [if_neg hc,if_neg hc]; exact h.append (.cons rv .nil)
theorem RKs.len {kvs:List (κ × D)}{ws:List (κ × V)} (h:RKs K H μ kvs ws):kvs.length=ws.length:=by
 have:=congrArg List.length h.1
 simpa using this
end
noncomputable def dictAt (S:Store) (n:Nat) (x:D):Option (Option D):=match S[n]? with
 | some (.dk kvs)=>(keyOf x).map fun k=>valD kvs k
 | _=>none
theorem dictAt_ok {K:W.Frag}{H:Hp}{μ:List Addr}{S:Store}{n:Nat}{x:D}{v:V}{a:Addr}{r:Option D} (sr:SR K μ S H) (e:dictAt S n x=some r) (hm:μ[n]?=some a) (rx:RV K H μ x v):∃ o,DGet H a v o∧(∀ d,r=some d→∃ w,o=some w∧RV K H μ d w)∧(r=none→o=none):=by
 unfold dictAt at e
 split at e
 ·rename_i kvs ho
  cases q:keyOf x with
  | none=>rw [q] at e; cases e
  | some k =>
   rw [q] at e; cases e
   obtain ⟨ws,hw,rr⟩:=sr.get hm ho
   have:=keyOf_v q rx
   subst this
   exact ⟨valV ws k,DGet.k hw,(rr.val (k:=k)).1,(rr.val (k:=k)).2⟩
 ·cases e
noncomputable def oIn (neg:Bool):D→D→M D:=fun x y S=>match y with
 | .dct n=>match dictAt S n x with
  | some o=>.ok (.bl (if neg then !o.isSome else o.isSome)) S
  | none=>.bad
 | _=>match seqAt S y,flat x with
  | some ys,some v=>match ys.mapM flat with
   | some vs=>.ok (.bl (if neg then !inV v vs else inV v vs)) S
   | none=>.bad
  | _,_=>.bad
theorem flat_flatV {x:D}{v:V} (h:flat x=some v):flatV v=true:=by
 cases x <;> first | (cases h; rfl) | cases h
theorem flats_flatV:∀ {ds:List D}{vs:List V},ds.mapM flat=some vs→vs.all flatV=true
 | [],vs,e=>by simp at e; subst e; rfl
 | d::ds,vs,e=>by
  rw [List.mapM_cons] at e
  cases q:flat d with
  | none=>rw [q] at e; cases e
  | some w =>
   cases q2:ds.mapM flat with
   | none=>rw [q,q2] at e; cases e
   | some ws' =>
    rw [q,q2] at e; cases e
    rw [List.all_cons,flat_flatV q,flats_flatV q2]; rfl
theorem op_din (hu:X.A.units+1<cLine):OpR X (compareOp .In) (fun y x H Q=>∃ a o,x=.ref a∧DGet H a y o∧Q (.bl o.isSome) H):=by
 intro pins s σ H y x v u Q I ry rx h
 obtain ⟨a,o,rfl,g,q⟩:=h
 obtain rfl:u=Value.ref a:=rx
 exact d_in hu I g ry fun s3 I3=>⟨.bl o.isSome,H,I3,rfl,q⟩
theorem op_dnotin (hu:X.A.units+1<cLine):OpR X (compareOp .NotIn) (fun y x H Q=>∃ a o,x=.ref a∧DGet H a y o∧Q (.bl (!o.isSome)) H):=by
 intro pins s σ H y x v u Q I ry rx h
 obtain ⟨a,o,rfl,g,q⟩:=h
 obtain rfl:u=Value.ref a:=rx
 exact d_notIn hu I g ry fun s3 I3=>⟨.bl (!o.isSome),H,I3,rfl,q⟩
theorem os_in_core {neg:Bool}{op:CmpOp} (h1:OpR X (compareOp op) (rIn X.K neg)) (h2:OpR X (compareOp op) (fun y x H Q=>∃ a o,x=.ref a∧DGet H a y o∧Q (.bl (if neg then !o.isSome else o.isSome)) H))
  : OpS X.K (rAny X (compareOp op)) (oIn neg):=by
 intro x y S d S' H μ v u Q e sr rx ry h
 unfold oIn at e
 split at e
 ·rename_i n
  split at e
  ·rename_i o ho
   cases e
   unfold RV at ry
   obtain ⟨a,rfl,hm⟩:=ry
   obtain ⟨o',g,g1,g2⟩:=dictAt_ok sr ho hm rx
   have e2:o'.isSome=o.isSome:=by
    cases o with
    | none=>simp [g2 rfl]
    | some d=>obtain ⟨w,rfl,_⟩:=g1 d rfl; rfl
   exact ⟨_,h2,a,o',rfl,g,by rw [e2]; exact h.self sr rv_bl⟩
  ·cases e
 ·split at e
  ·rename_i ys w e1 e2
   split at e
   ·rename_i ws e3
    cases e
    obtain ⟨a,vs,rfl,hq,rr⟩:=sr.seq ry e1
    have z1:=flat_v e2 rx
    have z2:=flats_v e3 rr
    subst z1 z2
    exact ⟨_,h1,a,vs,rfl,hq,flat_flatV e2,flats_flatV e3,h.self sr rv_bl⟩
   ·cases e
  ·cases e
theorem os_in (hu:X.A.units+64<cLine):OpS X.K (rAny X (compareOp .In)) (oIn false):=os_in_core op_in_seq (op_din (by omega))
theorem os_notIn (hu:X.A.units+64<cLine):OpS X.K (rAny X (compareOp .NotIn)) (oIn true):=os_in_core op_notIn_seq (op_dnotin (by omega))
end
open PySem PySem.Spec PyProof.Rows
section
variable {X:Cx}
theorem ix_dict (hu:X.A.units+1<cLine):IxR X (fun x y H Q=>∃ a v,x=.ref a∧DGet H a y (some v)∧Q v H):=by
 intro value slice pins s σ H x y v u Q I rx ry h hs
 obtain ⟨a,z,rfl,g,q⟩:=h
 obtain rfl:v=Value.ref a:=rx
 have hT:=dict_typeIs I g
 have h₂:wpAny (model X.prog X.w) X.A (getItem (.ref a) u) (EP X pins σ Q) X.xe s:=d_getItem hu I g ry fun w' s3 I3 rw'=>⟨z,H,I3,rw',q⟩
 unfold subscriptTail
 refine wpAny_bind ?_
 rw [getitemInPython_of_ne hT.not_modules]
 refine wpAny_bind (wpAny_specialOf hT PySem.F.slot_dict_getitem.lookup ?_)
 have fin:wpAny (model X.prog X.w) X.A (subscripted slice false (.ref a) u) (fun r s₃=>wpAny (model X.prog X.w) X.A (letTemporaryGo value (.ref a) r >>= fun _=>pure r) (EP X pins σ Q) X.xe s₃) X.xe s:=by
  rw [hs]
  exact wpAny_operating (wpAny_mono h₂ (fun r s₃ h₃=>wpAny_bind (wpAny_letTemporaryGo (wpAny_pure h₃))) fun _ _ x=>x)
 exact wpAny_pure (wpAny_bind fin)
noncomputable def oIx:D→D→M D:=fun x i S=>match x with
 | .dct n=>match dictAt S n i with
  | some (some d)=>.ok d S
  | _=>.bad
 | .str z=>match i with
  | .int j=>match atI z.cps.toList j with
   | some c=>if z.length≤lim then .ok (.str ⟨#[c]⟩) S else .bad
   | none=>.bad
  | _=>.bad
 | _=>match seqAt S x,i with
  | some xs,.int j=>match atI xs j with
   | some d=>.ok d S
   | none=>.bad
  | _,_=>.bad
theorem RVs.at {K:W.Frag}{H:Hp}{μ:List Addr}{ds:List D}{vs:List V}{i:Int}{d:D} (r:RVs K H μ ds vs) (e:atI ds i=some d):∃ v,atI vs i=some v∧RV K H μ d v:=by
 unfold atI at e ⊢
 rw [← r.len]
 cases q:ixN ds.length i with
 | none=>rw [q] at e; cases e
 | some j =>
  rw [q] at e
  obtain ⟨v,e1,e2⟩:=r.get (i:=j) (d:=d) e
  exact ⟨v,e1,e2⟩
theorem os_ix (hu:X.A.units+1<cLine):OpS X.K (ixAnyR X) oIx:=by
 intro x y S d S' H μ v u Q e sr rx ry h
 unfold oIx at e
 split at e
 ·rename_i n
  split at e
  ·rename_i d' ho
   cases e
   unfold RV at rx
   obtain ⟨a,rfl,hm⟩:=rx
   obtain ⟨o,g,g1,_⟩:=dictAt_ok sr ho hm ry
   obtain ⟨w,rfl,rw'⟩:=g1 _ rfl
   exact ⟨_,ix_dict hu,a,w,rfl,g,h.self sr rw'⟩
  ·cases e
 ·rename_i z
  split at e
  ·rename_i j
   split at e
   ·rename_i c hc
    split at e
    ·rename_i hl
     cases e
     unfold RV at rx ry
     subst rx ry
     exact ⟨_,ix_str,z,j,c,rfl,rfl,lim_le hl,hc,h.self sr rv_str⟩
    ·cases e
   ·cases e
  ·cases e
 ·split at e
  ·rename_i xs j e1
   split at e
   ·rename_i d' e2
    cases e
    obtain ⟨a,vs,rfl,hq,rr⟩:=sr.seq rx e1
    obtain ⟨w,e3,rw'⟩:=rr.at e2
    unfold RV at ry
    subst ry
    rcases hq with hq | hq
    ·exact ⟨_,ix_list,a,vs,j,w,rfl,rfl,hq,e3,h.self sr rw'⟩
    ·exact ⟨_,ix_tup,a,vs,j,w,rfl,rfl,hq,e3,h.self sr rw'⟩
   ·cases e
  ·cases e
noncomputable def cutD (xs:List D) (lo hi:Option Int):List D:=(xs.drop (HT.sIx xs.length 0 lo)).take (HT.sIx xs.length xs.length hi - HT.sIx xs.length 0 lo)
noncomputable def oSl:D→Option Int→Option Int→M D:=fun x lo hi S=>match x with
 | .tup xs=>.ok (.tup (cutD xs lo hi)) S
 | .lst n=>match lstAt S n with
  | some xs=>.ok (.lst S.length) (S++[.lst (cutD xs lo hi)])
  | none=>.bad
 | _=>.bad
theorem RVs.cut {K:W.Frag}{H:Hp}{μ:List Addr}{ds:List D}{vs:List V} (r:RVs K H μ ds vs) (lo hi:Option Int):RVs K H μ (cutD ds lo hi) (cutV vs lo hi):=by
 unfold cutD cutV
 rw [r.len]
 exact (r.drop _).take _
theorem ss_sl:SlS X.K (slAnyR X) oSl:=by
 intro x lo hi S d S' H μ v Q e sr rx h
 unfold oSl at e
 split at e
 ·cases e
  unfold RV at rx
  obtain ⟨p,vs,rfl,q,rr⟩:=rx
  exact ⟨_,sl_tup2,p,vs,rfl,q,fun p2 H1 sm sq=>h.oldT sr sm sq (rr.cut lo hi)⟩
 ·split at e
  ·rename_i xs e1
   cases e
   unfold RV at rx
   obtain ⟨a,rfl,hm⟩:=rx
   obtain ⟨vs,q,rr⟩:=sr.sq hm e1
   exact ⟨_,sl_list,a,vs,rfl,q,fun p hp=>h.newL sr hp (rr.cut lo hi)⟩
  ·cases e
 ·cases e
noncomputable def fLen:List D→M D:=fun xs S=>match xs with
 | [.str x]=>if x.length≤lim then .ok (.int x.length) S else .bad
 | [.dct n]=>.bad
 | [x]=>match seqAt S x with
  | some ys=>.ok (.int ys.length) S
  | none=>.bad
 | _=>.bad
theorem RVs.one {K:W.Frag}{H:Hp}{μ:List Addr}{d:D}{vs:List V} (h:RVs K H μ [d] vs):∃ v,vs=[v]∧RV K H μ d v:=by
 obtain ⟨v,ws,rfl,r1,r2⟩:=h.cons_inv
 rw [r2.nil_inv]
 exact ⟨v,rfl,r1⟩
theorem RVs.two {K:W.Frag}{H:Hp}{μ:List Addr}{d e:D}{vs:List V} (h:RVs K H μ [d,e] vs):∃ v u,vs=[v,u]∧RV K H μ d v∧RV K H μ e u:=by
 obtain ⟨v,ws,rfl,r1,r2⟩:=h.cons_inv
 obtain ⟨u,rfl,r3⟩:=r2.one
 exact ⟨v,u,rfl,r1,r3⟩
theorem cs_len:CallS X.K (cAny X (.builtin "len")) fLen:=by
 intro xs S d S' H μ vs Q e sr rx h
 unfold fLen at e
 split at e
 ·split at e
  ·rename_i hl; cases e
   obtain ⟨v,rfl,r⟩:=rx.one
   unfold RV at r; subst r
   exact ⟨_,call_len_str,_,rfl,lim_le hl,h.self sr rv_int⟩
  ·cases e
 ·cases e
 ·split at e
  ·rename_i ys e1
   cases e
   obtain ⟨v,rfl,r⟩:=rx.one
   obtain ⟨a,vs,rfl,hq,rr⟩:=sr.seq r e1
   exact ⟨_,call_len_seq,a,vs,rfl,hq,by rw [← rr.len]; exact h.self sr rv_int⟩
  ·cases e
 ·cases e
noncomputable def fMin:List D→M D:=fun xs S=>match xs with
 | [.int i,.int j]=>.ok (.int (if j<i then j else i)) S
 | _=>.bad
noncomputable def fMax:List D→M D:=fun xs S=>match xs with
 | [.int i,.int j]=>.ok (.int (if j>i then j else i)) S
 | _=>.bad
theorem cs_min (hc:X.calm=true):CallS X.K (cAny X (.builtin "min")) fMin:=by
 intro xs S d S' H μ vs Q e sr rx h
 unfold fMin at e
 split at e
 ·cases e
  obtain ⟨v,u,rfl,r1,r2⟩:=rx.two
  unfold RV at r1 r2; subst r1 r2
  exact ⟨_,call_min2 hc,_,_,rfl,h.self sr rv_int⟩
 ·cases e
theorem cs_max (hc:X.calm=true):CallS X.K (cAny X (.builtin "max")) fMax:=by
 intro xs S d S' H μ vs Q e sr rx h
 unfold fMax at e
 split at e
 ·cases e
  obtain ⟨v,u,rfl,r1,r2⟩:=rx.two
  unfold RV at r1 r2; subst r1 r2
  exact ⟨_,call_max2 hc,_,_,rfl,h.self sr rv_int⟩
 ·cases e
noncomputable def fList:List D→M D:=fun xs S=>match xs with
 | [x]=>match seqAt S x with
  | some ys=>.ok (.lst S.length) (S++[.lst ys])
  | none=>.bad
 | _=>.bad
theorem cs_list:CallS X.K (cAny X (.type "list")) fList:=by
 intro xs S d S' H μ vs Q e sr rx h
 unfold fList at e
 split at e
 ·split at e
  ·rename_i ys e1
   cases e
   obtain ⟨v,rfl,r⟩:=rx.one
   obtain ⟨a,vs,rfl,hq,rr⟩:=sr.seq r e1
   exact ⟨_,call_list_of,a,vs,rfl,hq,fun l hl=>h.newL sr hl rr⟩
  ·cases e
 ·cases e
noncomputable def fTuple:List D→M D:=fun xs S=>match xs with
 | [.tup ys]=>.ok (.tup ys) S
 | [.lst n]=>match lstAt S n with
  | some ys=>.ok (.tup ys) S
  | none=>.bad
 | _=>.bad
theorem cs_tuple:CallS X.K (cAny X (.type "tuple")) fTuple:=by
 intro xs S d S' H μ vs Q e sr rx h
 unfold fTuple at e
 split at e
 ·cases e
  obtain ⟨v,rfl,r⟩:=rx.one
  have r':=r
  unfold RV at r'; obtain ⟨p,ws,rfl,q,rr⟩:=r'
  exact ⟨_,call_tuple_of,p,ws,rfl,.inr ⟨SqT.of q,h.self sr r⟩⟩
 ·split at e
  ·rename_i ys e1
   cases e
   obtain ⟨v,rfl,r⟩:=rx.one
   unfold RV at r; obtain ⟨a,rfl,hm⟩:=r
   obtain ⟨ws,q,rr⟩:=sr.sq hm e1
   exact ⟨_,call_tuple_of,a,ws,rfl,.inl ⟨q,fun l hl=>h.newT sr hl rr⟩⟩
  ·cases e
 ·cases e
noncomputable def fInt:List D→M D:=fun xs S=>match xs with
 | [.int i]=>.ok (.int i) S
 | [.bl b]=>.ok (.int (if b then 1 else 0)) S
 | _=>.bad
theorem cs_int:CallS X.K (cAny X (.type "int")) fInt:=by
 intro xs S d S' H μ vs Q e sr rx h
 unfold fInt at e
 split at e
 ·cases e
  obtain ⟨v,rfl,r⟩:=rx.one
  unfold RV at r; subst r
  exact ⟨_,call_int1,.inl ⟨_,rfl,h.self sr rv_int⟩⟩
 ·cases e
  obtain ⟨v,rfl,r⟩:=rx.one
  unfold RV at r; subst r
  exact ⟨_,call_int1,.inr ⟨_,rfl,h.self sr rv_int⟩⟩
 ·cases e
noncomputable def dictK (S:Store) (n:Nat):Option String:=match S[n]? with
 | some (.dk _)=>some "dict"
 | _=>none
noncomputable def kindD (S:Store):D→Option String
 | .non=>some "NoneType"
 | .bl _=>some "bool"
 | .int _=>some "int"
 | .str _=>some "str"
 | .tup _=>some "tuple"
 | .lst n=>if (lstAt S n).isSome then some "list" else none
 | .dct n=>dictK S n
 | _=>none
noncomputable def fInst:List D→M D:=fun xs S=>match xs with
 | [x,.ty T]=>match kindD S x with
  | some t=>if T∈["bool","int","tuple","list","str","dict"] then .ok (.bl (kOf t T)) S else .bad
  | none=>.bad
 | _=>.bad
theorem kind_ok {K:W.Frag}{H:Hp}{μ:List Addr}{S:Store}{x:D}{v:V}{t:String} (sr:SR K μ S H) (e:kindD S x=some t) (r:RV K H μ x v):Ty2 K H v t∧t∈["NoneType","bool","int","str","tuple","list","dict"]:=by
 cases x with
 | non=>cases e; unfold RV at r; subst r; exact ⟨.non,by decide⟩
 | bl b=>cases e; unfold RV at r; subst r; exact ⟨.bl b,by decide⟩
 | int i=>cases e; unfold RV at r; subst r; exact ⟨.int i,by decide⟩
 | str i=>cases e; unfold RV at r; subst r; exact ⟨.str i,by decide⟩
 | tup xs=>cases e; unfold RV at r; obtain ⟨p,vs,rfl,q,_⟩:=r; exact ⟨.tup (SqT.of q),by decide⟩
 | lst n =>
  have e:(if (lstAt S n).isSome then some "list" else none)=some t:=e
  split at e
  ·rename_i hs
   cases e
   obtain ⟨xs,hx⟩:=Option.isSome_iff_exists.mp hs
   unfold RV at r; obtain ⟨a,rfl,hm⟩:=r
   obtain ⟨vs,q,_⟩:=sr.sq hm hx
   exact ⟨.lst q,by decide⟩
  ·cases e
 | dct n =>
  have e:dictK S n=some t:=e
  unfold dictK at e
  split at e
  ·rename_i kvs ho
   cases e
   unfold RV at r; obtain ⟨a,rfl,hm⟩:=r
   obtain ⟨ws,hw,_⟩:=sr.get hm ho
   exact ⟨.dk hw,by decide⟩
  ·cases e
 | ty n=>cases e
 | rol n=>cases e
theorem cs_inst:CallS X.K (cAny X (.builtin "isinstance")) fInst:=by
 intro xs S d S' H μ vs Q e sr rx h
 unfold fInst at e
 split at e
 ·rename_i x T
  split at e
  ·rename_i t e1
   split at e
   ·rename_i hT
    cases e
    obtain ⟨v,u,rfl,r1,r2⟩:=rx.two
    unfold RV at r2; subst r2
    obtain ⟨k1,k2⟩:=kind_ok sr e1 r1
    exact ⟨_,call_isinst2,v,t,T,_,rfl,k1,kit_all2 X.K t k2 T hT,h.self sr rv_bl⟩
   ·cases e
  ·cases e
 ·cases e
noncomputable def boolsOf:List D→Option (List Bool)
 | []=>some []
 | .bl b::r=>(boolsOf r).map (b::·)
 | _::_=>none
theorem boolsOf_vs {K:W.Frag}{H:Hp}{μ:List Addr}:∀ {ds:List D}{ns:List Bool}{vs:List V},boolsOf ds=some ns→RVs K H μ ds vs→vs=ns.map V.bl
 | [],ns,vs,e,r=>by cases e; rw [r.nil_inv]; rfl
 | .bl i::ds,ns,vs,e,r=>by
  obtain ⟨v,ws,rfl,r1,r2⟩:=r.cons_inv
  unfold boolsOf at e
  cases q:boolsOf ds with
  | none=>rw [q] at e; cases e
  | some ms =>
   rw [q] at e; cases e
   unfold RV at r1; subst r1
   rw [boolsOf_vs q r2]; rfl
 | .non::ds,ns,vs,e,r=>by cases e
 | .int _::ds,ns,vs,e,r=>by cases e
 | .str _::ds,ns,vs,e,r=>by cases e
 | .ty _::ds,ns,vs,e,r=>by cases e
 | .tup _::ds,ns,vs,e,r=>by cases e
 | .lst _::ds,ns,vs,e,r=>by cases e
 | .dct _::ds,ns,vs,e,r=>by cases e
 | .rol _::ds,ns,vs,e,r=>by cases e
noncomputable def fBools (g:List Bool→Bool):List D→M D:=fun xs S=>match xs with
 | [.tup ys]=>match intsOf ys with
  | some ns=>.ok (.bl (g (ns.map (· != 0)))) S
  | none=>.bad
 | [.lst n]=>match (lstAt S n).bind boolsOf with
  | some bs=>.ok (.bl (g bs)) S
  | none=>.bad
 | _=>.bad
theorem cs_bools {id:String}{g:List Bool→Bool} (hr:CallR X (.builtin id) (fun vs H Q=>∃ (p:Addr) (bs:List Bool),vs=[.ref p]∧SqL X.K H p (bs.map V.bl)∧Q (.bl (g bs)) H)) (hr2:CallR X (.builtin id) (fun vs H Q=>∃ (p:Addr) (ns:List Int),vs=[.ref p]∧SqT X.K H p (ns.map V.int)∧Q (.bl (g (ns.map (· != 0)))) H)):CallS X.K (cAny X (.builtin id)) (fBools g):=by
 intro xs S d S' H μ vs Q e sr rx h
 unfold fBools at e
 split at e
 ·split at e
  ·rename_i ns e1
   cases e
   obtain ⟨v,rfl,r⟩:=rx.one
   unfold RV at r; obtain ⟨a,ws,rfl,q,rr⟩:=r
   have z:=intsOf_vs e1 rr
   subst z
   exact ⟨_,hr2,a,ns,rfl,SqT.of q,h.self sr rv_bl⟩
  ·cases e
 ·split at e
  ·rename_i bs e1
   cases e
   obtain ⟨ys,e2,e3⟩:=Option.bind_eq_some_iff.mp e1
   obtain ⟨v,rfl,r⟩:=rx.one
   unfold RV at r; obtain ⟨a,rfl,hm⟩:=r
   obtain ⟨ws,q,rr⟩:=sr.sq hm e2
   have z:=boolsOf_vs e3 rr
   subst z
   exact ⟨_,hr,a,bs,rfl,q,h.self sr rv_bl⟩
  ·cases e
 ·cases e
theorem CallR.imp {f:Value}{r r':List V→Hp→VK→Prop} (h:CallR X f r) (w:∀ vs H Q,r' vs H Q→r vs H Q):CallR X f r':=fun pins s σ H xs us Q I rv q=>h pins s σ H xs us Q I rv (w _ _ _ q)
theorem cs_all (hc:X.calm=true):CallS X.K (cAny X (.builtin "all")) (fBools fun bs=>bs.all id):=cs_bools (call_allL hc) ((call_allT hc).imp fun vs H Q ⟨p,ns,h1,h2,h3⟩=>⟨p,ns,h1,h2,by rw [List.all_map] at h3; exact h3⟩)
theorem cs_any (hc:X.calm=true):CallS X.K (cAny X (.builtin "any")) (fBools fun bs=>bs.any id):=cs_bools (call_anyL hc) ((call_anyT hc).imp fun vs H Q ⟨p,ns,h1,h2,h3⟩=>⟨p,ns,h1,h2,by rw [List.any_map] at h3; exact h3⟩)
def MtS (K:W.Frag) (T:String) (r:V→List V→Hp→VK→Prop) (o:D→List D→M D):Prop:=∀ x xs S d S' H μ v vs Q,o x xs S=.ok d S'→SR K μ S H→RV K H μ x v→RVs K H μ xs vs→Yld K μ H d S' Q→r v vs H Q
noncomputable def tyOk (T:String) (x:D) (S:Store):Bool:=match x with
 | .lst n=>decide (T = "list")&&(lstAt S n).isSome
 | .dct n=>decide (T = "dict")&&(match S[n]? with | some (.dk _)=>true | some (.dt _)=>true | _=>false)
 | .int _=>decide (T = "int")
 | .str _=>decide (T = "str")
 | _=>false
theorem tyOk_v {K:W.Frag}{H:Hp}{μ:List Addr}{S:Store}{T:String}{x:D}{v:V} (sr:SR K μ S H) (h:tyOk T x S=true) (r:RV K H μ x v):tyV K T v H:=by
 unfold tyOk at h
 split at h
 ·simp only [Bool.and_eq_true,decide_eq_true_eq] at h
  obtain ⟨h1,h2⟩:=h
  obtain ⟨xs,hx⟩:=Option.isSome_iff_exists.mp h2
  unfold RV at r; obtain ⟨a,rfl,hm⟩:=r
  obtain ⟨vs,q,_⟩:=sr.sq hm hx
  exact .inl ⟨h1,vs,q⟩
 ·simp only [Bool.and_eq_true,decide_eq_true_eq] at h
  obtain ⟨h1,h2⟩:=h
  unfold RV at r; obtain ⟨a,rfl,hm⟩:=r
  split at h2
  ·rename_i kvs ho
   obtain ⟨ws,q,_⟩:=sr.get hm ho
   exact .inr (.inr (.inl ⟨h1,.inl ⟨ws,q⟩⟩))
  ·rename_i kvs ho
   obtain ⟨ws,q,_⟩:=sr.get hm ho
   exact .inr (.inr (.inl ⟨h1,.inr ⟨ws,q⟩⟩))
  ·cases h2
 ·unfold RV at r; subst r
  exact (of_decide_eq_true h:T = "int")
 ·unfold RV at r; subst r
  exact (of_decide_eq_true h:T = "str")
 ·cases h
noncomputable def cMeth (T:String) (o:D→List D→M D) (a:C) (as:CA):C:=fun ρ=>bnd (a ρ) fun x S=>if tyOk T x S then bnd (as ρ) (fun xs=>o x xs) S else .bad
variable {o e:Expr}{es:List Expr}{co:C}{ca:CA}{name:Str}{apos cpos:Pos}{T id:String}{m:D→List D→M D}
theorem se_meth (pa:PlainAttrs T) (slot:Slot T name id) (hty:typeOf (.builtin id)=pure (.type "method_descriptor")) (hm:MtS X.K T (mtAnyR X id) m) (ho:PE X o (tOf X.K co)) (ha:PA X (e::es) (tOfA X.K ca))
  (hbase:attributeBase o name X.env (eval o X.env)=eval o X.env)
  (hfew:((backTo cpos (starEach (e::es) X.env)).all (fun x=>!x.1)&&(backToKw cpos (keywordEach [] X.env)).all (fun x=>x.1.isSome)
   && decide ((e::es).length+([]:List Keyword).length+(if ([]:List Keyword).isEmpty then 0 else 1)<30))=true)
  (hline:(apos.endLine == cpos.line)=true) (hs:starEach (e::es) X.env=(false,eval e X.env)::starEach es X.env) (hplain:(backTo cpos (starEach es X.env)).any (·.1)=false) :
  PE X (.Call (.Attribute o name apos) (e::es) [] cpos) (tOf X.K (cMeth T m co ca)):=(pe_bm pa slot hty mtAny ho ha hbase hfew hline hs hplain).weak (by
 rintro σ H Q ⟨μ,ρ,S,d,S',sr,re,e,y⟩
 obtain ⟨x,S1,e1,e⟩:=bnd_ok e
 split at e
 ·rename_i hk
  obtain ⟨xs,S2,e2,e⟩:=bnd_ok e
  refine ⟨μ,ρ,S,x,S1,sr,re,e1,fun v H1 μ1 sr1 st1 r1=>⟨tyOk_v sr1 hk r1,μ1,ρ,S1,xs,S2,sr1,re.up st1,e2,fun vs H2 μ2 sr2 st2 r2=>?_⟩⟩
  exact hm x xs S2 d S' H2 μ2 v vs Q e sr2 (RV.up st2.tk st2.ext _ _ r1) r2 (y.shift (st1.trans st2 sr2.nd))
 ·cases e)
noncomputable def mList (g:List D→List D→Option (List D × D)):D→List D→M D:=fun x xs S=>match x with
 | .lst n=>match S[n]? with
  | some (.lst ys)=>match g ys xs with
   | some (zs,d)=>.ok d (S.set n (.lst zs))
   | none=>.bad
  | _=>.bad
 | _=>.bad
theorem SR.putL {K:W.Frag}{H:Hp}{μ:List Addr}{S:Store}{n:Nat}{p:Addr}{vs ws:List V}{zs:List D} (sr:SR K μ S H) (hn:μ[n]?=some p) (hp:H p=some (.lst vs)) (r:RVs K H μ zs ws):SR K μ (S.set n (.lst zs)) (upd H p (.lst ws))∧Step K μ μ H (upd H p (.lst ws)) :=
 sr.put hn hp (fun _ z=>by cases z) (fun _ _ z=>by cases z) ⟨ws,upd_same,RVs.up (tf_lst hp) ⟨[],by simp⟩ _ _ r⟩
theorem ms_list {g:List D→List D→Option (List D × D)}
  (h:∀ (K:W.Frag) H μ ys xs zs d vs us,g ys xs=some (zs,d)→RVs K H μ ys vs→RVs K H μ xs us→∃ ws w,RVs K H μ zs ws∧RV K H μ d w∧∀ (p:Addr) (Q:VK),H p=some (.lst vs)→Q w (upd H p (.lst ws))→mtAnyR X id (.ref p) us H Q):MtS X.K "list" (mtAnyR X id) (mList g):=by
 intro x xs S d S' H μ v us Q e sr rx rs y
 unfold mList at e
 split at e
 ·rename_i n
  split at e
  ·rename_i ys ho
   split at e
   ·rename_i zs d' hg
    cases e
    unfold RV at rx; obtain ⟨p,rfl,hm⟩:=rx
    obtain ⟨vs,hp,rr⟩:=sr.lst hm ho
    obtain ⟨ws,w,r1,r2,fin⟩:=h X.K H μ ys xs zs d vs us hg rr rs
    obtain ⟨s1,s2⟩:=sr.putL hm hp r1
    exact fin p Q hp (y w _ μ s1 s2 (RV.up s2.tk s2.ext _ _ r2))
   ·cases e
  ·cases e
 ·cases e
noncomputable def gAppend:List D→List D→Option (List D × D):=fun ys xs=>match xs with
 | [x]=>if ys.length<lim then some (ys++[x],.non) else none
 | _=>none
theorem ms_append:MtS X.K "list" (mtAnyR X "list.append") (mList gAppend):=ms_list fun K H μ ys xs zs d vs us e r1 r2=>by
 unfold gAppend at e
 split at e
 ·split at e
  ·rename_i hl; cases e
   obtain ⟨v,rfl,r3⟩:=r2.one
   exact ⟨vs++[v],.non,r1.append (.cons r3 .nil),rv_non,fun p Q hp q=>⟨_,mt_append,p,vs,v,rfl,rfl,hp,by rw [← r1.len]; exact lim_lt hl,q⟩⟩
  ·cases e
 ·cases e
noncomputable def gInsert:List D→List D→Option (List D × D):=fun ys xs=>match xs with
 | [.int i,x]=>if ys.length<1000∧0≤i∧i.toNat≤ys.length then some (ys.take i.toNat++x::ys.drop i.toNat,.non) else none
 | _=>none
theorem ms_insert:MtS X.K "list" (mtAnyR X "list.insert") (mList gInsert):=ms_list fun K H μ ys xs zs d vs us e r1 r2=>by
 unfold gInsert at e
 split at e
 ·rename_i i x
  split at e
  ·rename_i hl; cases e
   obtain ⟨h1,h2,h3⟩:=hl
   obtain ⟨v,u,rfl,r3,r4⟩:=r2.two
   unfold RV at r3; subst r3
   have ei:i=((i.toNat:Nat):Int):=by omega
   exact ⟨vs.take i.toNat++u::vs.drop i.toNat,.non,(r1.take _).append (.cons r4 (r1.drop _)),rv_non,fun p Q hp q=>⟨_,mt_insert,p,vs,i.toNat,u,rfl,by rw [← ei],hp,by rw [← r1.len]; exact h1,by rw [← r1.len]; exact h3,q⟩⟩
  ·cases e
 ·cases e
noncomputable def oSet:D→D→D→Store→Option Store:=fun x i v S=>match x with
 | .lst n=>match S[n]?,i with
  | some (.lst ys),.int k=>match ixN ys.length k with
   | some j=>some (S.set n (.lst (ys.set j v)))
   | none=>none
  | _,_=>none
 | .dct n=>match S[n]?,keyOf i with
  | some (.dk kvs),some k=>if kvs.length<lim then some (S.set n (.dk (putD kvs k v))) else none
  | _,_=>none
 | _=>none
theorem set_dict (hu:X.A.units+1<cLine):PSet X (fun o i v H Q=>∃ a H4,o=.ref a∧DPut H a i v H4∧Q H4):=by
 intro pins s σ H o i v ov iv u Q I ro ri rv h
 obtain ⟨a,H4,rfl,g,q⟩:=h
 obtain rfl:ov=Value.ref a:=ro
 exact d_setItem hu I g ri rv fun s4 I4=>⟨H4,I4,q⟩
theorem ps_sets (hu:X.A.units+1<cLine) {x i v:D}{S S':Store}{H:Hp}{μ:List Addr}{ov iv vv:V}{Q:Hp→Prop} (e:oSet x i v S=some S') (sr:SR X.K μ S H) (rx:RV X.K H μ x ov) (ri:RV X.K H μ i iv) (rv:RV X.K H μ v vv) (y:∀ H' ,SR X.K μ S' H'→Step X.K μ μ H H'→Q H'):setAnyR X ov iv vv H Q:=by
 unfold oSet at e
 split at e
 ·split at e
  ·rename_i ys k ho
   split at e
   ·rename_i j hj
    cases e
    unfold RV at rx ri; obtain ⟨p,rfl,hm⟩:=rx; subst ri
    obtain ⟨vs,hp,rr⟩:=sr.lst hm ho
    obtain ⟨s1,s2⟩:=sr.putL hm hp (rr.set rv j)
    exact ⟨_,set_list,p,vs,k,j,rfl,rfl,hp,by rw [← rr.len]; exact hj,y _ s1 s2⟩
   ·cases e
  ·cases e
 ·split at e
  ·rename_i kvs k ho hk
   split at e
   ·rename_i hl
    cases e
    unfold RV at rx; obtain ⟨p,rfl,hm⟩:=rx
    obtain ⟨ws,hp,rr⟩:=sr.get hm ho
    have z:=keyOf_v hk ri
    subst z
    have tk:TF X.K H (upd H p (.dK (putK ws k vv))):=tf_upd hp (fun _ z=>by cases z) (fun _ _ z=>by cases z)
    obtain ⟨s1,s2⟩:=sr.put (o:=.dK (putK ws k vv)) (o':=.dk (putD kvs k v)) hm hp (fun _ z=>by cases z) (fun _ _ z=>by cases z) ⟨_,upd_same,(rr.put rv).up tk ⟨[],by simp⟩⟩
    exact ⟨_,set_dict hu,p,_,rfl,DPut.k hp (by rw [← rr.len]; exact lim_lt hl),y _ s1 s2⟩
   ·cases e
  ·cases e
 ·cases e
end
open PySem PySem.Spec PyProof.Rows
inductive RS where
 | bad | nx (ρ:Env1) (S:Store) | rt (d:D) (S:Store) | bk (ρ:Env1) (S:Store) | ct (ρ:Env1) (S:Store) | er (c:Str) (S:Store)
noncomputable abbrev CS:=Env1→Store→RS
noncomputable def PostS (X:Cx) (μ:List Addr) (H:Hp) (E:Ends):RS→Prop
 | .bad=>False
 | .er _ _=>False
 | .nx ρ' S'=>∀ σ' H' μ',SR X.K μ' S' H'→Step X.K μ μ' H H'→RE X.K H' μ' ρ' σ'→E.nx σ' H'
 | .bk ρ' S'=>∀ σ' H' μ',SR X.K μ' S' H'→Step X.K μ μ' H H'→RE X.K H' μ' ρ' σ'→E.bk σ' H'
 | .ct ρ' S'=>∀ σ' H' μ',SR X.K μ' S' H'→Step X.K μ μ' H H'→RE X.K H' μ' ρ' σ'→E.ct σ' H'
 | .rt d S'=>Yld X.K μ H d S' E.rt
inductive tOfS (X:Cx) (c:CS) (E:Ends) (σ:St) (H:Hp):Prop
 | mk (μ:List Addr) (ρ:Env1) (S:Store) (sr:SR X.K μ S H) (re:RE X.K H μ ρ σ) (y:PostS X μ H E (c ρ S))
theorem PostS.shift {X:Cx}{μ μ1:List Addr}{H H1:Hp}{E:Ends}{r:RS} (h:PostS X μ H E r) (st:Step X.K μ μ1 H H1):PostS X μ1 H1 E r:=by
 cases r with
 | bad=>exact h
 | er _ _=>exact h
 | nx ρ S=>exact fun σ' H' μ' sr s2 re=>h σ' H' μ' sr (st.trans s2 sr.nd) re
 | bk ρ S=>exact fun σ' H' μ' sr s2 re=>h σ' H' μ' sr (st.trans s2 sr.nd) re
 | ct ρ S=>exact fun σ' H' μ' sr s2 re=>h σ' H' μ' sr (st.trans s2 sr.nd) re
 | rt d S=>exact Yld.shift h st
noncomputable def sPass:CS:=fun ρ S=>.nx ρ S
noncomputable def sBrk:CS:=fun ρ S=>.bk ρ S
noncomputable def sCnt:CS:=fun ρ S=>.ct ρ S
noncomputable def sBad:CS:=fun _ _=>.bad
noncomputable def sRetN:CS:=fun _ S=>.rt .non S
noncomputable def sRet (c:C):CS:=fun ρ S=>match c ρ S with
 | .ok d S'=>.rt d S'
 | .bad=>.bad
 | .er _ _=>.bad
noncomputable def sExpr (c:C):CS:=fun ρ S=>match c ρ S with
 | .ok _ S'=>.nx ρ S'
 | .bad=>.bad
 | .er _ _=>.bad
noncomputable def sSeq (a b:CS):CS:=fun ρ S=>match a ρ S with
 | .nx ρ' S'=>b ρ' S'
 | r=>r
noncomputable def sIf (t:CT) (a b:CS):CS:=fun ρ S=>match t ρ S with
 | .ok k S'=>if k then a ρ S' else b ρ S'
 | .bad=>.bad
 | .er _ _=>.bad
noncomputable abbrev G:=D→Env1→M Env1
noncomputable def sAsg (c:C) (g:G):CS:=fun ρ S=>match c ρ S with
 | .ok d S'=>match g d ρ S' with
  | .ok ρ' S2=>.nx ρ' S2
  | .bad=>.bad
  | .er _ _=>.bad
 | .bad=>.bad
 | .er _ _=>.bad
section
variable {X:Cx}{e a b tg:Expr}{ce ca cb:C}{pos:Pos}
theorem ss_pass:PS X (.Pass pos) (tOfS X sPass):=ps_pass.weak fun E σ H ⟨μ,ρ,S,sr,re,p⟩=>p σ H μ sr (Step.refl _ _ _) re
theorem ss_brk:PS X (.Break pos) (tOfS X sBrk):=ps_break.weak fun E σ H ⟨μ,ρ,S,sr,re,p⟩=>p σ H μ sr (Step.refl _ _ _) re
theorem ss_cnt:PS X (.Continue pos) (tOfS X sCnt):=ps_continue.weak fun E σ H ⟨μ,ρ,S,sr,re,p⟩=>p σ H μ sr (Step.refl _ _ _) re
theorem ss_bad {st:Stmt}:PS X st (tOfS X sBad):=ps_never.weak fun E σ H ⟨μ,ρ,S,sr,re,p⟩=>p
theorem ss_retN:PS X (.Return none pos) (tOfS X sRetN):=ps_retN.weak fun E σ H ⟨μ,ρ,S,sr,re,p⟩=>p _ H μ sr (Step.refl _ _ _) rv_non
theorem ss_ret (he:PE X e (tOf X.K ce)):PS X (.Return (some e) pos) (tOfS X (sRet ce)):=(ps_ret he).weak (by
 rintro E σ H ⟨μ,ρ,S,sr,re,p⟩
 unfold sRet at p
 split at p
 ·rename_i d S' h
  exact ⟨μ,ρ,S,d,S',sr,re,h,p⟩
 ·exact False.elim p
 ·exact False.elim p)
theorem ss_expr (he:PE X e (tOf X.K ce)) (hs:swapsWith e none pos.line X.env=pure false):PS X (.Expr e pos) (tOfS X (sExpr ce)):=(ps_expr he hs).weak (by
 rintro E σ H ⟨μ,ρ,S,sr,re,p⟩
 unfold sExpr at p
 split at p
 ·rename_i d S' h
  exact ⟨μ,ρ,S,d,S',sr,re,h,fun v H1 μ1 sr1 st1 r1=>p σ H1 μ1 sr1 st1 (re.up st1)⟩
 ·exact False.elim p
 ·exact False.elim p)
theorem sss_nil:PSs X [] (tOfS X sPass):=pss_nil.weak fun E σ H ⟨μ,ρ,S,sr,re,p⟩=>p σ H μ sr (Step.refl _ _ _) re
theorem sss_cons {st:Stmt}{rest:List Stmt}{c1 c2:CS} (h1:PS X st (tOfS X c1)) (h2:PSs X rest (tOfS X c2)):PSs X (st::rest) (tOfS X (sSeq c1 c2)):=(pss_cons h1 h2).weak (by
 rintro E σ H ⟨μ,ρ,S,sr,re,p⟩
 refine ⟨μ,ρ,S,sr,re,?_⟩
 unfold sSeq at p
 revert p
 cases c1 ρ S with
 | nx ρ' S'=>exact fun p σ' H' μ' sr' st' re'=>⟨μ',ρ',S',sr',re',p.shift st'⟩
 | bad=>exact fun p=>p
 | er _ _=>exact fun p=>p
 | rt _ _=>exact fun p=>p
 | bk _ _=>exact fun p=>p
 | ct _ _=>exact fun p=>p)
theorem ss_if {t:Expr}{ct:CT}{as bs:List Stmt}{c1 c2:CS} (ht:PT X t (tOfT X.K ct)) (h1:PSs X as (tOfS X c1)) (h2:PSs X bs (tOfS X c2)):PS X (.If t as bs pos) (tOfS X (sIf ct c1 c2)):=(ps_if ht h1 h2).weak (by
 rintro E σ H ⟨μ,ρ,S,sr,re,p⟩
 unfold sIf at p
 split at p
 ·rename_i k S' h
  refine ⟨μ,ρ,S,k,S',sr,re,h,fun H1 μ1 sr1 st1=>?_⟩
  cases k with
  | true=>rw [if_pos rfl] at p ⊢; exact ⟨μ1,ρ,S',sr1,re.up st1,p.shift st1⟩
  | false=>rw [if_neg Bool.false_ne_true] at p ⊢; exact ⟨μ1,ρ,S',sr1,re.up st1,p.shift st1⟩
 ·exact False.elim p
 ·exact False.elim p)
inductive tOfG (K:W.Frag) (g:G) (v:V) (σ:St) (H:Hp) (Q:St→Hp→Prop):Prop
 | mk (μ:List Addr) (ρ:Env1) (S:Store) (d:D) (ρ':Env1) (S':Store) (sr:SR K μ S H) (re:RE K H μ ρ σ) (rv:RV K H μ d v) (e:g d ρ S=.ok ρ' S') (y:∀ σ' H' μ',SR K μ' S' H'→Step K μ μ' H H'→RE K H' μ' ρ' σ'→Q σ' H')
theorem PG.weak {t t':TG} (h:PG X tg t) (w:∀ v σ H Q,t' v σ H Q→t v σ H Q):PG X tg t':=fun pins s σ H v u Q I r q=>h pins s σ H v u Q I r (w v σ H Q q)
noncomputable def gN (i:Nat):G:=fun d ρ S=>.ok (ρ.set i (some d)) S
theorem sg_name {i:Nat}{x:Str} (h:PG X (.Name x pos) (gName i)):PG X (.Name x pos) (tOfG X.K (gN i)):=h.weak (by
 rintro v σ H Q ⟨μ,ρ,S,d,ρ',S',sr,re,rv,e,y⟩
 unfold gN at e; cases e
 exact y _ H μ sr (Step.refl _ _ _) (re.set rv i))
noncomputable def gS (co ci:C):G:=fun d ρ=>bnd (co ρ) fun o=>bnd (ci ρ) fun i S=>match oSet o i d S with
 | some S'=>.ok ρ S'
 | none=>.bad
theorem sg_sub (hu:X.A.units+1<cLine) (ho:PE X a (tOf X.K ca)) (hi:PE X b (tOf X.K cb)) (ha:∀ v,assign (.Subscript a b pos) X.env v=(do
   let ov ← holding [v] (eval a X.env)
   let iv ← holding [v,ov] (eval b X.env)
   standAt pos
   holding [v,ov,iv] (setItem ov iv v)
   release [v,ov,iv] [])):PG X (.Subscript a b pos) (tOfG X.K (gS ca cb)):=(pg_sub ho hi setAny ha).weak (by
 rintro v σ H Q ⟨μ,ρ,S,d,ρ',S',sr,re,rv,e,y⟩
 obtain ⟨x,S1,e1,e⟩:=bnd_ok e
 obtain ⟨z,S2,e2,e⟩:=bnd_ok e
 split at e
 ·rename_i S3 e3
  cases e
  refine ⟨μ,ρ,S,x,S1,sr,re,e1,fun ov H1 μ1 sr1 st1 r1=>⟨μ1,ρ,S1,z,S2,sr1,re.up st1,e2,fun iv H2 μ2 sr2 st2 r2=>?_⟩⟩
  have st12:=st1.trans st2 sr2.nd
  refine ps_sets hu e3 sr2 (RV.up st2.tk st2.ext _ _ r1) r2 (RV.up st12.tk st12.ext _ _ rv) fun H3 sr3 st3=>?_
  exact y σ H3 μ2 sr3 (st12.trans st3 sr3.nd) (re.up (st12.trans st3 sr3.nd))
 ·cases e)
noncomputable def gTs:List G→List D→Env1→M Env1
 | [],[]=>fun ρ=>ret ρ
 | g::gs,d::ds=>fun ρ=>bnd (g d ρ) fun ρ1=>gTs gs ds ρ1
 | _,_=>fun _=>bad
noncomputable def gT (gs:List G):G:=fun d ρ=>match d with
 | .tup xs=>gTs gs xs ρ
 | _=>bad
inductive tOfGs (K:W.Frag) (gs:List G) (vs:List V) (σ:St) (H:Hp) (Q:St→Hp→Prop):Prop
 | mk (μ:List Addr) (ρ:Env1) (S:Store) (ds:List D) (ρ':Env1) (S':Store) (sr:SR K μ S H) (re:RE K H μ ρ σ) (rv:RVs K H μ ds vs) (e:gTs gs ds ρ S=.ok ρ' S') (y:∀ σ' H' μ',SR K μ' S' H'→Step K μ μ' H H'→RE K H' μ' ρ' σ'→Q σ' H')
theorem PGs.weak {es:List Expr}{t t':TGs} (h:PGs X es t) (w:∀ v σ H Q,t' v σ H Q→t v σ H Q):PGs X es t':=fun pins s σ H v u Q I r q=>h pins s σ H v u Q I r (w v σ H Q q)
theorem sgs_nil:PGs X [] (tOfGs X.K []):=pgs_nil.weak (by
 rintro v σ H Q ⟨μ,ρ,S,ds,ρ',S',sr,re,rv,e,y⟩
 cases ds with
 | nil =>
  obtain ⟨rfl,rfl⟩:=ret_ok e
  exact ⟨rv.nil_inv,y σ H μ sr (Step.refl _ _ _) re⟩
 | cons d ds=>cases e)
theorem sgs_cons {es:List Expr}{g:G}{gs:List G} (h1:PG X e (tOfG X.K g)) (h2:PGs X es (tOfGs X.K gs)) (hs:(assignEach (e::es) X.env).map (·.2)=assign e X.env::(assignEach es X.env).map (·.2)):PGs X (e::es) (tOfGs X.K (g::gs)):=(pgs_cons h1 h2 hs).weak (by
 rintro v σ H Q ⟨μ,ρ,S,ds,ρ',S',sr,re,rv,e,y⟩
 cases ds with
 | nil=>cases e
 | cons d ds =>
  obtain ⟨ρ1,S1,e1,e⟩:=bnd_ok e
  obtain ⟨u,us,rfl,r1,r2⟩:=rv.cons_inv
  refine ⟨u,us,rfl,μ,ρ,S,d,ρ1,S1,sr,re,r1,e1,fun σ1 H1 μ1 sr1 st1 re1=>?_⟩
  exact ⟨μ1,ρ1,S1,ds,ρ',S',sr1,re1,RVs.up st1.tk st1.ext _ _ r2,e,fun σ2 H2 μ2 sr2 st2 re2=>y σ2 H2 μ2 sr2 (st1.trans st2 sr2.nd) re2⟩)
theorem gTs_len {gs:List G}:∀ {ds:List D}{ρ ρ':Env1}{S S':Store},gTs gs ds ρ S=.ok ρ' S'→ds.length=gs.length:=by
 induction gs with
 | nil=>intro ds ρ ρ' S S' e; cases ds with | nil=>rfl | cons _ _=>cases e
 | cons g gs ih =>
  intro ds ρ ρ' S S' e
  cases ds with
  | nil=>cases e
  | cons d ds =>
   obtain ⟨ρ1,S1,e1,e⟩:=bnd_ok e
   rw [List.length_cons,List.length_cons,ih e]
theorem sg_tup {es:List Expr}{k:Nat}{gs:List G} (hc:X.calm=true) (h:PGs X es (tOfGs X.K gs)) (hn:(assignEach es X.env).length=gs.length) (hst:(assignEach es X.env).findIdx? (·.1)=none):PG X (.Tuple es k pos) (tOfG X.K (gT gs)) :=
 (pg_tup hc h hn hst).weak (by
 rintro v σ H Q ⟨μ,ρ,S,d,ρ',S',sr,re,rv,e,y⟩
 unfold gT at e
 split at e
 ·rename_i xs
  unfold RV at rv
  obtain ⟨p,vs,rfl,q,rr⟩:=rv
  exact ⟨p,vs,rfl,SqT.of q,by rw [← rr.len]; exact gTs_len e,μ,ρ,S,xs,ρ',S',sr,re,rr,e,y⟩
 ·cases e)
theorem ss_asg {g:G} (he:PE X e (tOf X.K ce)) (hg:PG X tg (tOfG X.K g)) (hs:swapsWithSole [tg] e pos.line X.env=pure false) (hw:swappedStores [tg] e X.env=pure none) (h1:(assignEach [tg] X.env).map (·.2)=[assign tg X.env]):PS X (.Assign [tg] e pos) (tOfS X (sAsg ce g)):=(ps_asg he hg hs hw h1).weak (by
 rintro E σ H ⟨μ,ρ,S,sr,re,p⟩
 unfold sAsg at p
 split at p
 ·rename_i d S' h
  split at p
  ·rename_i ρ' S2 h2
   refine ⟨μ,ρ,S,d,S',sr,re,h,fun v H1 μ1 sr1 st1 r1=>⟨μ1,ρ,S',d,ρ',S2,sr1,re.up st1,r1,h2,fun σ2 H2 μ2 sr2 st2 re2=>?_⟩⟩
   exact p σ2 H2 μ2 sr2 (st1.trans st2 sr2.nd) re2
  ·exact False.elim p
  ·exact False.elim p
 ·exact False.elim p
 ·exact False.elim p)
theorem ss_set {i:Nat}{x:Str}{pos':Pos} (h:PS X (.Assign [.Name x pos'] e pos) (tAsg (tOf X.K ce) (gName i))):PS X (.Assign [.Name x pos'] e pos) (tOfS X (sAsg ce (gN i))):=h.weak (by
 rintro E σ H ⟨μ,ρ,S,sr,re,p⟩
 unfold sAsg at p
 split at p
 ·rename_i d S' h
  have e2:gN i d ρ S'=.ok (ρ.set i (some d)) S':=rfl
  rw [e2] at p
  exact ⟨μ,ρ,S,d,S',sr,re,h,fun v H1 μ1 sr1 st1 r1=>p _ H1 μ1 sr1 st1 ((re.up st1).set r1 i)⟩
 ·exact False.elim p
 ·exact False.elim p)
noncomputable def whileS:Nat→CT→CS→CS
 | 0,_,_=>fun _ _=>.bad
 | k+1,t,b=>fun ρ S=>match t ρ S with
  | .ok true S1=>match b ρ S1 with
   | .nx ρ2 S2=>whileS k t b ρ2 S2
   | .ct ρ2 S2=>whileS k t b ρ2 S2
   | .bk ρ2 S2=>.nx ρ2 S2
   | r=>r
  | .ok false S1=>.nx ρ S1
  | .bad=>.bad
  | .er _ _=>.bad
theorem ss_while {t:Expr}{ct:CT}{body:List Stmt}{cb:CS} (k:Nat) (hp:PassesOwn (model X.prog X.w) X.A X.env X.xe) (ht:PT X t (tOfT X.K ct)) (hb:PSs X body (tOfS X cb)):PS X (.While t body [] pos) (tOfS X (whileS k ct cb)):=(ps_while hp ht hb).weak (by
 rintro E σ0 H0 ⟨μ0,ρ0,S0,sr0,re0,p0⟩
 refine ⟨fun m σ H=>∃ μ ρ S,SR X.K μ S H∧Step X.K μ0 μ H0 H∧RE X.K H μ ρ σ∧PostS X μ H E (whileS m ct cb ρ S),⟨k,μ0,ρ0,S0,sr0,Step.refl _ _ _,re0,p0⟩,?_⟩
 rintro m σ H ⟨μ,ρ,S,sr,st,re,p⟩
 cases m with
 | zero=>exact False.elim p
 | succ m =>
  unfold whileS at p
  split at p
  ·rename_i S1 h
   refine ⟨μ,ρ,S,true,S1,sr,re,h,fun H1 μ1 sr1 st1=>?_⟩
   dsimp only
   rw [if_pos rfl]
   refine ⟨fun σ' H'=>∃ μ ρ S,SR X.K μ S H'∧Step X.K μ0 μ H0 H'∧RE X.K H' μ ρ σ'∧PostS X μ H' E (whileS m ct cb ρ S),fun σ' H' h=>⟨m,Nat.lt_succ_self m,h⟩,μ1,ρ,S1,sr1,re.up st1,?_⟩
   have st01:=st.trans st1 sr1.nd
   revert p
   cases cb ρ S1 with
   | nx ρ2 S2=>exact fun p σ2 H2 μ2 sr2 st2 re2=>⟨μ2,ρ2,S2,sr2,st01.trans st2 sr2.nd,re2,p.shift (st1.trans st2 sr2.nd)⟩
   | ct ρ2 S2=>exact fun p σ2 H2 μ2 sr2 st2 re2=>⟨μ2,ρ2,S2,sr2,st01.trans st2 sr2.nd,re2,p.shift (st1.trans st2 sr2.nd)⟩
   | bk ρ2 S2=>exact fun p σ2 H2 μ2 sr2 st2 re2=>p σ2 H2 μ2 sr2 (st1.trans st2 sr2.nd) re2
   | rt d S2=>exact fun p=>Yld.shift p st1
   | bad=>exact fun p=>p
   | er _ _=>exact fun p=>p
  ·rename_i S1 h
   refine ⟨μ,ρ,S,false,S1,sr,re,h,fun H1 μ1 sr1 st1=>?_⟩
   dsimp only
   rw [if_neg Bool.false_ne_true]
   exact p σ H1 μ1 sr1 st1 (re.up st1)
  ·exact False.elim p
  ·exact False.elim p)
noncomputable abbrev Watch:=List (Nat × List D)
def okW (w:Watch) (S:Store):Prop:=∀ p∈w,lstAt S p.1=some p.2
noncomputable abbrev CI:=Env1→M (List D × Watch)
structure ItOk (K:W.Frag) (J:It) (items:List D) (w:Watch) (μ0:List Addr) (H0:Hp):Prop where
 go:∀ (i:Nat) H μ S,SR K μ S H→Step K μ0 μ H0 H→okW w S→i<items.length→J.go i H
 yld:∀ (i:Nat) H μ S x H',SR K μ S H→Step K μ0 μ H0 H→okW w S→i<items.length→J.yld i H x H'→∃ d,items[i]?=some d∧SR K μ S H'∧Step K μ μ H H'∧RV K H' μ d x
 stop:∀ H μ S,SR K μ S H→Step K μ0 μ H0 H→okW w S→J.stop items.length H
inductive tOfI (K:W.Frag) (it:CI) (σ:St) (H:Hp) (R:It→Hp→Prop):Prop
 | mk (μ:List Addr) (ρ:Env1) (S:Store) (items:List D) (w:Watch) (S':Store) (sr:SR K μ S H) (re:RE K H μ ρ σ) (e:it ρ S=.ok (items,w) S') (y:∀ J H' μ',SR K μ' S' H'→Step K μ μ' H H'→ItOk K J items w μ' H'→R J H')
theorem PI.weak {iter:Expr}{t t':TI} (h:PI X tg iter t) (w:∀ σ H R,t' σ H R→t σ H R):PI X tg iter t':=fun pins s σ H R I q=>h pins s σ H R I (w σ H R q)
theorem Step.at {K:W.Frag}{μ μ':List Addr}{H H':Hp} (st:Step K μ μ' H H') {n:Nat}{a:Addr} (h:μ[n]?=some a):μ'[n]?=some a:=by
 obtain ⟨ν,rfl⟩:=st.ext
 rw [List.getElem?_append_left (List.getElem?_eq_some_iff.mp h).1]; exact h
open Classical in
noncomputable def loopS (w:Watch) (g:G) (b:CS):List D→CS
 | []=>fun ρ S=>if okW w S then .nx ρ S else .bad
 | d::ds=>fun ρ S=>if okW w S then (match g d ρ S with
  | .ok ρ1 S1=>match b ρ1 S1 with
   | .nx ρ2 S2=>loopS w g b ds ρ2 S2
   | .ct ρ2 S2=>loopS w g b ds ρ2 S2
   | .bk ρ2 S2=>.nx ρ2 S2
   | r=>r
  | .bad=>.bad
  | .er _ _=>.bad) else .bad
noncomputable def sFor (it:CI) (g:G) (b:CS):CS:=fun ρ S=>match it ρ S with
 | .ok (items,w) S1=>loopS w g b items ρ S1
 | .bad=>.bad
 | .er _ _=>.bad
theorem ss_for {iter:Expr}{body:List Stmt}{it:CI}{g:G}{cb:CS} (hp:PassesOwn (model X.prog X.w) X.A X.env X.xe) (hc:X.calm=true) (hi:PI X tg iter (tOfI X.K it)) (hg:PG X tg (tOfG X.K g)) (hb:PSs X body (tOfS X cb))
  (hs:∀ x,foldedSetIterable iter X.env x=pure x):PS X (.For tg iter body [] pos) (tOfS X (sFor it g cb)):=(ps_for hp hc hi hg hb hs).weak (by
 rintro E σ H ⟨μ,ρ,S,sr,re,p⟩
 unfold sFor at p
 split at p
 ·rename_i items w S0 h0
  refine ⟨μ,ρ,S,items,w,S0,sr,re,h0,fun J H0 μ0 sr0 st0 io=>?_⟩
  refine ⟨fun i m σ H=>i+m=items.length∧∃ μ ρ S,SR X.K μ S H∧Step X.K μ0 μ H0 H∧RE X.K H μ ρ σ∧PostS X μ H E (loopS w g cb (items.drop i) ρ S),⟨items.length,by simp,μ0,ρ,S0,sr0,Step.refl _ _ _,re.up st0,by rw [List.drop_zero]; exact p.shift st0⟩,?_⟩
  rintro i m σ1 H1 ⟨him,μ1,ρ1,S1,sr1,st1,re1,p1⟩
  by_cases hi:i<items.length
  ·rw [List.drop_eq_getElem_cons hi] at p1
   unfold loopS at p1
   split at p1
   ·rename_i hw
    refine .inr ⟨io.go i H1 μ1 S1 sr1 st1 hw hi,fun σ' H'=>i+1+(m - 1)=items.length∧∃ μ ρ S,SR X.K μ S H'∧Step X.K μ0 μ H0 H'∧RE X.K H' μ ρ σ'∧PostS X μ H' E (loopS w g cb (items.drop (i+1)) ρ S),fun σ' H' z=>⟨m - 1,by omega,z⟩,fun x H2 hy=>?_⟩
    obtain ⟨d,hd,sr2,st2,rv⟩:=io.yld i H1 μ1 S1 x H2 sr1 st1 hw hi hy
    have ed:items[i]=d:=by rw [List.getElem?_eq_getElem hi] at hd; exact Option.some.inj hd
    rw [ed] at p1
    split at p1
    ·rename_i ρ3 S3 h3
     refine ⟨μ1,ρ1,S1,d,ρ3,S3,sr2,re1.up st2,rv,h3,fun σ3 H3 μ3 sr3 st3 re3=>⟨μ3,ρ3,S3,sr3,re3,?_⟩⟩
     have st23:=st2.trans st3 sr3.nd
     have st03:=st1.trans st23 sr3.nd
     revert p1
     cases cb ρ3 S3 with
     | nx ρ4 S4=>exact fun p σ4 H4 μ4 sr4 st4 re4=>⟨by omega,μ4,ρ4,S4,sr4,st03.trans st4 sr4.nd,re4,p.shift (st23.trans st4 sr4.nd)⟩
     | ct ρ4 S4=>exact fun p σ4 H4 μ4 sr4 st4 re4=>⟨by omega,μ4,ρ4,S4,sr4,st03.trans st4 sr4.nd,re4,p.shift (st23.trans st4 sr4.nd)⟩
     | bk ρ4 S4=>exact fun p σ4 H4 μ4 sr4 st4 re4=>p σ4 H4 μ4 sr4 (st23.trans st4 sr4.nd) re4
     | rt d S4=>exact fun p=>Yld.shift p st23
     | bad=>exact fun p=>p
     | er _ _=>exact fun p=>p
    ·exact False.elim p1
    ·exact False.elim p1
   ·exact False.elim p1
  ·have e:i=items.length:=by omega
   subst e
   rw [List.drop_length] at p1
   unfold loopS at p1
   split at p1
   ·rename_i hw
    exact .inl ⟨io.stop H1 μ1 S1 sr1 st1 hw,p1 σ1 H1 μ1 sr1 (Step.refl _ _ _) re1⟩
   ·exact False.elim p1
 ·exact False.elim p
 ·exact False.elim p)
end
open PySem PySem.Spec PyProof.Rows
section
variable {X:Cx}{tg e:Expr}{ce:C}{pos:Pos}
noncomputable def iSeq (c:C):CI:=fun ρ=>bnd (c ρ) fun x S=>match x with
 | .tup xs=>.ok (xs,[]) S
 | .lst n=>match lstAt S n with
  | some xs=>.ok (xs,[(n,xs)]) S
  | none=>.bad
 | _=>.bad
theorem it_tup {K:W.Frag}{H0:Hp}{μ0:List Addr}{a:Addr}{xs:List D}{vs:List V} (q:SqT K H0 a vs) (r:RVs K H0 μ0 xs vs):ItOk K (Itt K a) xs [] μ0 H0 where
 go:=fun i H μ S sr st _ hi=>by
  obtain ⟨v,e,_⟩:=r.get (List.getElem?_eq_getElem hi)
  exact ⟨vs,v,st.tk.t _ _ q,e⟩
 yld:=fun i H μ S x H' sr st _ hi y=>by
  obtain ⟨rfl,y⟩:=y
  obtain ⟨v,e,rv⟩:=r.get (List.getElem?_eq_getElem hi)
  have:=y vs (st.tk.t _ _ q)
  rw [e] at this; cases this
  exact ⟨xs[i],List.getElem?_eq_getElem hi,sr,Step.refl _ _ _,RV.up st.tk st.ext _ _ rv⟩
 stop:=fun H μ S sr st _=>⟨vs,st.tk.t _ _ q,by rw [r.len]; exact Nat.le_refl _⟩
theorem it_lst {K:W.Frag}{H0:Hp}{μ0:List Addr}{a:Addr}{n:Nat}{xs:List D} (hm:μ0[n]?=some a):ItOk K (Itl K a) xs [(n,xs)] μ0 H0 where
 go:=fun i H μ S sr st w hi=>by
  obtain ⟨vs,q,r⟩:=sr.sq (st.at hm) (w (n,xs) (by simp))
  obtain ⟨v,e,_⟩:=r.get (List.getElem?_eq_getElem hi)
  exact ⟨vs,v,q,e⟩
 yld:=fun i H μ S x H' sr st w hi y=>by
  obtain ⟨rfl,y⟩:=y
  obtain ⟨vs,q,r⟩:=sr.sq (st.at hm) (w (n,xs) (by simp))
  obtain ⟨v,e,rv⟩:=r.get (List.getElem?_eq_getElem hi)
  have:=y vs q
  rw [e] at this; cases this
  exact ⟨xs[i],List.getElem?_eq_getElem hi,sr,Step.refl _ _ _,rv⟩
 stop:=fun H μ S sr st w=>by
  obtain ⟨vs,q,r⟩:=sr.sq (st.at hm) (w (n,xs) (by simp))
  exact ⟨vs,q,by rw [r.len]; exact Nat.le_refl _⟩
theorem pi_seq {tl:TE} (hl:PE X e tl):PI X tg e (fun σ H R=>tl σ H fun x H1=>∃ a,x=.ref a∧((∃ xs,SqL X.K H1 a xs)∧R (Itl X.K a) H1∨(∃ xs,SqT X.K H1 a xs)∧R (Itt X.K a) H1
  )):=by
 intro pins s σ H R I h
 refine thn (hl pins s σ H _ I h) fun v s1 ⟨x,H1,I1,r1,q1⟩=>?_
 obtain ⟨a,e,q⟩:=q1
 subst e
 cases r1
 rcases q with ⟨⟨xs,hq⟩,q⟩ | ⟨⟨xs,hq⟩,q⟩
 ·obtain ⟨its,rv,p,hz⟩:=I1.list hq
  refine wpAny_pyIter_list p.isList ?_
  refine ⟨s1.heap.objs.size,[s1.heap.objs.size],_,_,H1,rfl,I1.kept (t':=s1.toks) fun b o e=>Heap.get?_push_of_some _ e,turn_list a _,⟨_,Heap.get?_push_size _ rfl,rfl,rfl⟩,fun b hb=>?_,q⟩
  have e:b=s1.heap.objs.size:=by simpa using hb
  subst e
  exact I1.fpOk (Nat.le_refl _) (I1.hok.fresh (Nat.le_refl _))
 ·obtain ⟨its,rv,p,hz⟩:=I1.tuple hq
  refine wpAny_pyIter_tuple (show s1.heap.IsTuple a its.toArray from p) ?_
  refine ⟨s1.heap.objs.size,[s1.heap.objs.size],_,_,H1,rfl,I1.kept (t':=s1.toks) fun b o e=>Heap.get?_push_of_some _ e,turn_tuple a _,⟨_,Heap.get?_push_size _ rfl,rfl,rfl⟩,fun b hb=>?_,q⟩
  have e:b=s1.heap.objs.size:=by simpa using hb
  subst e
  exact I1.fpOk (Nat.le_refl _) (I1.hok.fresh (Nat.le_refl _))
theorem si_seq (he:PE X e (tOf X.K ce)):PI X tg e (tOfI X.K (iSeq ce)):=(pi_seq he).weak (by
 rintro σ H R ⟨μ,ρ,S,items,w,S',sr,re,e,y⟩
 obtain ⟨x,S1,e1,e⟩:=bnd_ok e
 refine ⟨μ,ρ,S,x,S1,sr,re,e1,fun v H1 μ1 sr1 st1 r1=>?_⟩
 try dsimp only at e
 split at e
 ·rename_i xs
  cases e
  have r1':=r1
  unfold RV at r1'; obtain ⟨a,vs,rfl,q,rr⟩:=r1'
  exact ⟨a,rfl,.inr ⟨⟨vs,SqT.of q⟩,y _ H1 μ1 sr1 st1 (it_tup (SqT.of q) rr)⟩⟩
 ·rename_i n
  split at e
  ·rename_i xs hx
   cases e
   unfold RV at r1; obtain ⟨a,rfl,hm⟩:=r1
   obtain ⟨vs,q,rr⟩:=sr1.sq hm hx
   exact ⟨a,rfl,.inl ⟨⟨vs,q⟩,y _ H1 μ1 sr1 st1 (it_lst hm)⟩⟩
  ·cases e
 ·cases e)
noncomputable def upD (lo:Int) (n:Nat):List D:=(List.range n).map fun k=>D.int (lo+(k:Nat))
theorem it_rng {K:W.Frag}{H0:Hp}{μ0:List Addr}{lo:Int}{n:Nat}:ItOk K (Itr lo n) (upD lo n) [] μ0 H0 where
 go:=fun i H μ S sr st _ hi=>by
  unfold upD at hi; simp at hi; exact hi
 yld:=fun i H μ S x H' sr st _ hi y=>by
  obtain ⟨rfl,rfl⟩:=y
  have hi':i<n:=by unfold upD at hi; simp at hi; exact hi
  exact ⟨.int (lo+i),by unfold upD; rw [List.getElem?_map,List.getElem?_range hi']; rfl,sr,Step.refl _ _ _,rv_int⟩
 stop:=fun H μ S sr st _=>by
  show n≤(upD lo n).length
  unfold upD; simp
noncomputable def iRange1 (a:CA):CI:=fun ρ=>bnd (a ρ) fun xs S=>match xs with
 | [.int j]=>if -4611686018427387904≤j∧j<4611686018427387904 then .ok (upD 0 j.toNat,[]) S else .bad
 | _=>.bad
noncomputable def iRange2 (a:CA):CI:=fun ρ=>bnd (a ρ) fun xs S=>match xs with
 | [.int i,.int j]=>if -4611686018427387904≤i∧i<4611686018427387904∧-4611686018427387904≤j∧j<4611686018427387904 then .ok (upD i (j - i).toNat,[]) S else .bad
 | _=>.bad
variable {a b:Expr}{ca:CA}
theorem si_range1 {p:Pos} (h:PI X tg (.Call (.Name "range" p) [a] [] pos) (iRng1 (tOfA X.K ca))):PI X tg (.Call (.Name "range" p) [a] [] pos) (tOfI X.K (iRange1 ca)):=h.weak (by
 rintro σ H R ⟨μ,ρ,S,items,w,S',sr,re,e,y⟩
 obtain ⟨xs,S1,e1,e⟩:=bnd_ok e
 refine ⟨μ,ρ,S,xs,S1,sr,re,e1,fun vs H1 μ1 sr1 st1 r1=>?_⟩
 try dsimp only at e
 split at e
 ·rename_i j
  split at e
  ·rename_i hl
   cases e
   obtain ⟨v,rfl,r2⟩:=r1.one
   unfold RV at r2; subst r2
   exact ⟨j,rfl,hl.1,hl.2,y _ H1 μ1 sr1 st1 it_rng⟩
  ·cases e
 ·cases e)
theorem si_range2 {p:Pos} (h:PI X tg (.Call (.Name "range" p) [a,b] [] pos) (iRng2 (tOfA X.K ca))):PI X tg (.Call (.Name "range" p) [a,b] [] pos) (tOfI X.K (iRange2 ca)):=h.weak (by
 rintro σ H R ⟨μ,ρ,S,items,w,S',sr,re,e,y⟩
 obtain ⟨xs,S1,e1,e⟩:=bnd_ok e
 refine ⟨μ,ρ,S,xs,S1,sr,re,e1,fun vs H1 μ1 sr1 st1 r1=>?_⟩
 try dsimp only at e
 split at e
 ·rename_i i j
  split at e
  ·rename_i hl
   cases e
   obtain ⟨v,u,rfl,r2,r3⟩:=r1.two
   unfold RV at r2 r3; subst r2 r3
   exact ⟨i,j,rfl,hl,y _ H1 μ1 sr1 st1 it_rng⟩
  ·cases e
 ·cases e)
theorem zip_get {α β:Type}{xs:List α}{ys:List β}{i:Nat} (h:i<(xs.zip ys).length):∃ x y,xs[i]?=some x∧ys[i]?=some y∧(xs.zip ys)[i]?=some (x,y):=by
 rw [List.length_zip] at h
 have h1:i<xs.length:=by omega
 have h2:i<ys.length:=by omega
 exact ⟨xs[i],ys[i],List.getElem?_eq_getElem h1,List.getElem?_eq_getElem h2,by rw [List.getElem?_zip_eq_some]; exact ⟨List.getElem?_eq_getElem h1,List.getElem?_eq_getElem h2⟩⟩
noncomputable def zipD (xs ys:List D):List D:=(xs.zip ys).map fun p=>.tup [p.1,p.2]
noncomputable def zsAt (S:Store):D→Option (List D)
 | .tup xs=>some xs
 | .lst n=>lstAt S n
 | _=>none
noncomputable def watchOf (x:D) (xs:List D):Watch:=match x with
 | .lst n=>[(n,xs)]
 | _=>[]
theorem sqX_of {K:W.Frag}{μ:List Addr}{S:Store}{H:Hp}{x:D}{v:V}{xs:List D} (sr:SR K μ S H) (r:RV K H μ x v) (ho:zsAt S x=some xs):∃ a b,v=.ref a∧(∃ vs,SqX b K H a vs) ∧
  ∀ H1 μ1 S1,SR K μ1 S1 H1→Step K μ μ1 H H1→okW (watchOf x xs) S1→∃ vs,SqX b K H1 a vs∧RVs K H1 μ1 xs vs:=by
 unfold zsAt at ho
 split at ho
 ·rename_i ys
  cases ho
  unfold RV at r; obtain ⟨a,vs,rfl,q,rr⟩:=r
  exact ⟨a,true,rfl,⟨vs,SqT.of q⟩,fun H1 μ1 S1 sr1 st1 _=>⟨vs,st1.tk.t _ _ (SqT.of q),RVs.up st1.tk st1.ext _ _ rr⟩⟩
 ·rename_i n
  unfold RV at r; obtain ⟨a,rfl,hm⟩:=r
  obtain ⟨vs,q,rr⟩:=sr.sq hm ho
  exact ⟨a,false,rfl,⟨vs,q⟩,fun H1 μ1 S1 sr1 st1 w=>sr1.sq (st1.at hm) (w (n,xs) (by simp [watchOf]))⟩
 ·cases ho
theorem okW_app {w1 w2:Watch}{S:Store}:okW (w1++w2) S↔okW w1 S∧okW w2 S:=by
 unfold okW
 simp only [List.mem_append]
 exact ⟨fun h=>⟨fun p hp=>h p (.inl hp),fun p hp=>h p (.inr hp)⟩,fun h p hp=>hp.elim (h.1 p) (h.2 p)⟩
theorem it_zipX {K:W.Frag}{H0:Hp}{μ0:List Addr}{a b:Addr}{b1 b2:Bool}{w1 w2:Watch}{xs ys:List D}
  (g1:∀ H1 μ1 S1,SR K μ1 S1 H1→Step K μ0 μ1 H0 H1→okW w1 S1→∃ vs,SqX b1 K H1 a vs∧RVs K H1 μ1 xs vs) (g2:∀ H1 μ1 S1,SR K μ1 S1 H1→Step K μ0 μ1 H0 H1→okW w2 S1→∃ vs,SqX b2 K H1 b vs∧RVs K H1 μ1 ys vs) :
  ItOk K (ItzX b1 b2 K a b) (zipD xs ys) (w1++w2) μ0 H0 where
 go:=fun i H μ S sr st w hi=>by
  obtain ⟨vs,q,r⟩:=g1 H μ S sr st (okW_app.mp w).1
  obtain ⟨us,q2,r2⟩:=g2 H μ S sr st (okW_app.mp w).2
  obtain ⟨x,y,e1,e2,_⟩:=zip_get (xs:=xs) (ys:=ys) (i:=i) (by unfold zipD at hi; simpa using hi)
  obtain ⟨v,g1,_⟩:=r.get e1
  obtain ⟨u,g2,_⟩:=r2.get e2
  exact ⟨vs,us,v,u,q,q2,g1,g2⟩
 yld:=fun i H μ S x H' sr st w hi y=>by
  obtain ⟨T,hT,rfl,y⟩:=y
  obtain ⟨vs,q,r⟩:=g1 H μ S sr st (okW_app.mp w).1
  obtain ⟨us,q2,r2⟩:=g2 H μ S sr st (okW_app.mp w).2
  obtain ⟨x,y',e1,e2,e3⟩:=zip_get (xs:=xs) (ys:=ys) (i:=i) (by unfold zipD at hi; simpa using hi)
  obtain ⟨v,g1,rv⟩:=r.get e1
  obtain ⟨u,g2,ru⟩:=r2.get e2
  have:=y vs us v u q q2 g1 g2
  subst this
  obtain ⟨s1,s2,s3⟩:=new_tup (p:=T) sr hT (.cons rv (.cons ru .nil))
  exact ⟨.tup [x,y'],by unfold zipD; rw [List.getElem?_map,e3]; rfl,s1,s2,s3⟩
 stop:=fun H μ S sr st w=>by
  obtain ⟨vs,q,r⟩:=g1 H μ S sr st (okW_app.mp w).1
  obtain ⟨us,q2,r2⟩:=g2 H μ S sr st (okW_app.mp w).2
  exact ⟨vs,us,q,q2,by unfold zipD; rw [List.length_map,List.length_zip,r.len,r2.len]⟩
noncomputable def iZipL (a:CA):CI:=fun ρ=>bnd (a ρ) fun xs S=>match xs with
 | [x,y]=>match zsAt S x,zsAt S y with
  | some ys,some zs=>.ok (zipD ys zs,watchOf x ys++watchOf y zs) S
  | _,_=>.bad
 | _=>.bad
theorem si_zip {elts:List Expr}{k:Nat}{tpos p:Pos} (h:PI X (.Tuple elts k tpos) (.Call (.Name "zip" p) [a,b] [] pos) (iZipX X.K (tOfA X.K ca))):PI X (.Tuple elts k tpos) (.Call (.Name "zip" p) [a,b] [] pos) (tOfI X.K (iZipL ca)):=h.weak (by
 rintro σ H R ⟨μ,ρ,S,items,w,S',sr,re,e,y⟩
 obtain ⟨xs,S1,e1,e⟩:=bnd_ok e
 refine ⟨μ,ρ,S,xs,S1,sr,re,e1,fun vs H1 μ1 sr1 st1 r1=>?_⟩
 try dsimp only at e
 split at e
 ·rename_i x1 x2
  split at e
  ·rename_i ys zs h1 h2
   cases e
   obtain ⟨v,u,rfl,r2,r3⟩:=r1.two
   obtain ⟨a,b1,rfl,q1,g1⟩:=sqX_of sr1 r2 h1
   obtain ⟨b,b2,rfl,q2,g2⟩:=sqX_of sr1 r3 h2
   exact ⟨a,b,b1,b2,rfl,q1,q2,y _ H1 μ1 sr1 st1 (it_zipX g1 g2)⟩
  ·cases e
 ·cases e)
noncomputable def enumD (xs:List D):List D:=((List.range xs.length).zip xs).map fun p=>.tup [.int (p.1:Nat),p.2]
theorem enum_get {xs:List D}{i:Nat} (h:i<xs.length):(enumD xs)[i]?=some (.tup [.int (i:Nat),xs[i]]):=by
 unfold enumD
 rw [List.getElem?_map]
 have:((List.range xs.length).zip xs)[i]?=some (i,xs[i]):=by
  rw [List.getElem?_zip_eq_some]
  exact ⟨List.getElem?_range h,List.getElem?_eq_getElem h⟩
 rw [this]; rfl
theorem enum_len (xs:List D):(enumD xs).length=xs.length:=by unfold enumD; simp
theorem it_enumT {K:W.Frag}{H0:Hp}{μ0:List Addr}{a:Addr}{xs:List D}{vs:List V} (q:SqT K H0 a vs) (r:RVs K H0 μ0 xs vs):ItOk K (IteX true K a) (enumD xs) [] μ0 H0 where
 go:=fun i H μ S sr st _ hi=>by
  rw [enum_len] at hi
  obtain ⟨v,e,_⟩:=r.get (List.getElem?_eq_getElem hi)
  exact ⟨vs,v,st.tk.t _ _ q,e⟩
 yld:=fun i H μ S x H' sr st _ hi y=>by
  rw [enum_len] at hi
  obtain ⟨T,hT,rfl,y⟩:=y
  obtain ⟨v,e,rv⟩:=r.get (List.getElem?_eq_getElem hi)
  have:=y vs v (st.tk.t _ _ q) e
  subst this
  obtain ⟨s1,s2,s3⟩:=new_tup (p:=T) sr hT (.cons rv_int (.cons (RV.up st.tk st.ext _ _ rv) .nil))
  exact ⟨_,enum_get hi,s1,s2,s3⟩
 stop:=fun H μ S sr st _=>⟨vs,st.tk.t _ _ q,by rw [enum_len,r.len]⟩
theorem it_enumL {K:W.Frag}{H0:Hp}{μ0:List Addr}{a:Addr}{n:Nat}{xs:List D} (hm:μ0[n]?=some a):ItOk K (IteX false K a) (enumD xs) [(n,xs)] μ0 H0 where
 go:=fun i H μ S sr st w hi=>by
  rw [enum_len] at hi
  obtain ⟨vs,q,r⟩:=sr.sq (st.at hm) (w (n,xs) (by simp))
  obtain ⟨v,e,_⟩:=r.get (List.getElem?_eq_getElem hi)
  exact ⟨vs,v,q,e⟩
 yld:=fun i H μ S x H' sr st w hi y=>by
  rw [enum_len] at hi
  obtain ⟨T,hT,rfl,y⟩:=y
  obtain ⟨vs,q,r⟩:=sr.sq (st.at hm) (w (n,xs) (by simp))
  obtain ⟨v,e,rv⟩:=r.get (List.getElem?_eq_getElem hi)
  have:=y vs v q e
  subst this
  obtain ⟨s1,s2,s3⟩:=new_tup (p:=T) sr hT (.cons rv_int (.cons rv .nil))
  exact ⟨_,enum_get hi,s1,s2,s3⟩
 stop:=fun H μ S sr st w=>by
  obtain ⟨vs,q,r⟩:=sr.sq (st.at hm) (w (n,xs) (by simp))
  exact ⟨vs,q,by rw [enum_len,r.len]⟩
noncomputable def iEnumT (a:CA):CI:=fun ρ=>bnd (a ρ) fun xs S=>match xs with
 | [.tup ys]=>.ok (enumD ys,[]) S
 | [.lst n]=>match lstAt S n with
  | some ys=>.ok (enumD ys,[(n,ys)]) S
  | none=>.bad
 | _=>.bad
theorem si_enum {elts:List Expr}{k:Nat}{tpos p:Pos} (h:PI X (.Tuple elts k tpos) (.Call (.Name "enumerate" p) [a] [] pos) (iEnumL X.K (tOfA X.K ca))):PI X (.Tuple elts k tpos) (.Call (.Name "enumerate" p) [a] [] pos) (tOfI X.K (iEnumT ca)):=h.weak (by
 rintro σ H R ⟨μ,ρ,S,items,w,S',sr,re,e,y⟩
 obtain ⟨xs,S1,e1,e⟩:=bnd_ok e
 refine ⟨μ,ρ,S,xs,S1,sr,re,e1,fun vs H1 μ1 sr1 st1 r1=>?_⟩
 try dsimp only at e
 split at e
 ·rename_i ys
  cases e
  obtain ⟨v,rfl,r2⟩:=r1.one
  unfold RV at r2
  obtain ⟨a,vs,rfl,q,rr⟩:=r2
  exact ⟨a,rfl,.inl ⟨⟨vs,SqT.of q⟩,y _ H1 μ1 sr1 st1 (it_enumT (SqT.of q) rr)⟩⟩
 ·rename_i n
  split at e
  ·rename_i ys ho
   cases e
   obtain ⟨v,rfl,r2⟩:=r1.one
   unfold RV at r2
   obtain ⟨a,rfl,hm⟩:=r2
   obtain ⟨vs,q,_⟩:=sr1.sq hm ho
   exact ⟨a,rfl,.inr ⟨⟨vs,q⟩,y _ H1 μ1 sr1 st1 (it_enumL hm)⟩⟩
  ·cases e
 ·cases e)
noncomputable def stE (k:Nat) (js:List Nat) (ρ:Env1):Env1:=List.replicate k none++js.map fun j=>(ρ[j]?).getD none
theorem RE.comp {K:W.Frag}{H:Hp}{μ:List Addr}{ρ:Env1}{σ:St} (re:RE K H μ ρ σ) (k:Nat) (js:List Nat):RE K H μ (stE k js ρ) (stC k js σ):=by
 refine ⟨by unfold stE stC; simp,fun i d e=>?_⟩
 unfold stE at e
 unfold stC
 by_cases hi:i<k
 ·rw [List.getElem?_append_left (by simpa using hi),List.getElem?_replicate] at e
  simp [hi] at e
 ·rw [List.getElem?_append_right (by simpa using hi),List.length_replicate,List.getElem?_map] at e
  rw [List.getElem?_append_right (by simpa using hi),List.length_replicate,List.getElem?_map]
  cases q:js[i - k]? with
  | none=>rw [q] at e; simp at e
  | some j =>
   rw [q] at e
   simp only [Option.map_some,Option.some.injEq] at e
   cases q2:ρ[j]? with
   | none=>rw [q2] at e; simp at e
   | some z =>
    rw [q2] at e
    simp at e
    subst e
    obtain ⟨v,e1,r1⟩:=re.2 j d q2
    exact ⟨v,by simp [e1],r1⟩
inductive Tgt where
 | one | many (k:Nat)
noncomputable def setAll:Env1→Nat→List D→Env1
 | ρ,_,[]=>ρ
 | ρ,s,x::xs=>setAll (ρ.set s (some x)) (s+1) xs
noncomputable def bindT (t:Tgt) (d:D) (ρ:Env1):Option Env1:=match t with
 | .one=>some (ρ.set 0 (some d))
 | .many k=>match d with
  | .tup xs=>if xs.length=k then some (setAll ρ 0 xs) else none
  | _=>none
noncomputable def gNames:Nat→Nat→TGs
 | _,0=>gNil
 | s,n+1=>gCons (gName s) (gNames (s+1) n)
noncomputable def tgtK:Tgt→Nat
 | .one=>1
 | .many k=>k
noncomputable def tOfT' (K:W.Frag):Tgt→TG
 | .one=>gName 0
 | .many k=>gTup K k (gNames 0 k)
theorem weak_set {k:Nat}{js:List Nat}{σ σ1:St} (h:WeakS (stC k js σ) σ1) {i:Nat} (hi:i<k) (v:V):WeakS (stC k js σ) (σ1.set i (some v)):=by
 refine ⟨by rw [List.length_set]; exact h.1,fun j u e=>?_⟩
 by_cases hj:i=j
 ·subst hj
  obtain ⟨_,h1,_⟩:=stC_get e
  omega
 ·rw [List.getElem?_set_ne hj]
  exact h.2 j u e
theorem weak_refl (σ:St):WeakS σ σ:=⟨rfl,fun _ _ h=>h⟩
theorem names_ok {K:W.Frag}{H:Hp}{μ:List Addr}{k:Nat}{js:List Nat}{σ:St}{Q:St→Hp→Prop}:∀ {n s:Nat}{xs:List D}{vs:List V}{ρ1:Env1}{σ1:St},RVs K H μ xs vs→xs.length=n→s+n≤k→RE K H μ ρ1 σ1→WeakS (stC k js σ) σ1→(∀ σ4,RE K H μ (setAll ρ1 s xs) σ4→WeakS (stC k js σ) σ4→Q σ4 H)→gNames s n vs σ1 H Q
 | 0,s,xs,vs,ρ1,σ1,r,hl,hk,re,w,h=>by
  have:xs=[]:=List.length_eq_zero_iff.mp hl
  subst this
  exact ⟨r.nil_inv,h σ1 re w⟩
 | n+1,s,[],vs,ρ1,σ1,r,hl,hk,re,w,h=>by simp at hl
 | n+1,s,x::xs,vs,ρ1,σ1,r,hl,hk,re,w,h=>by
  obtain ⟨v,us,rfl,r1,r2⟩:=r.cons_inv
  exact ⟨v,us,rfl,names_ok r2 (by simpa using hl) (by omega) (re.set r1 s) (weak_set w (by omega) v) h⟩
theorem bind_ok {K:W.Frag}{H:Hp}{μ:List Addr}{k:Nat}{js:List Nat}{σ:St}{ρ ρ4:Env1}{t:Tgt}{d:D}{x:V}{Q:St→Hp→Prop} (ht:tgtK t≤k) (re:RE K H μ (stE k js ρ) (stC k js σ)) (rv:RV K H μ d x) (e:bindT t d (stE k js ρ)=some ρ4) (h:∀ σ4,RE K H μ ρ4 σ4→WeakS (stC k js σ) σ4→Q σ4 H) (h1:1≤k):tOfT' K t x (stC k js σ) H Q:=by
 cases t with
 | one =>
  cases e
  exact h _ (re.set rv 0) (weak_set (weak_refl _) h1 x)
 | many n =>
  unfold bindT at e
  dsimp only at e
  split at e
  ·rename_i xs
   split at e
   ·rename_i hl
    cases e
    unfold RV at rv
    obtain ⟨p,vs,rfl,q,rr⟩:=rv
    exact ⟨p,vs,rfl,SqT.of q,by rw [← rr.len]; exact hl,names_ok rr hl (by have:n≤k:=ht; omega) re (weak_refl _) h⟩
   ·cases e
  ·cases e
open Classical in
noncomputable def loopC (w:Watch) (t:Tgt) (tc:CT) (c:C) (ρ0:Env1):List D→M (List D)
 | []=>fun S=>if okW w S then .ok [] S else .bad
 | d::ds=>fun S=>if okW w S then (match bindT t d ρ0 with
  | some ρ1=>bnd (tc ρ1) (fun k=>if k then bnd (c ρ1) fun y=>bnd (loopC w t tc c ρ0 ds) fun ys=>ret (y::ys) else loopC w t tc c ρ0 ds) S
  | none=>.bad) else .bad
noncomputable def cComp (it:CI) (k:Nat) (js:List Nat) (t:Tgt) (tc:CT) (c:C):C:=fun ρ=>bnd (it ρ) fun p S=>if p.1.length<lim then
  bnd (loopC p.2 t tc c (stE k js ρ) p.1) (fun ys S'=>.ok (.lst S'.length) (S'++[.lst ys])) S
 else .bad
theorem SR.acc {K:W.Frag}{H:Hp}{μ:List Addr}{S:Store}{A:Addr}{us ws:List V} (sr:SR K μ S H) (hA:A∉μ) (h:H A=some (.lst us)):SR K μ S (upd H A (.lst ws)) :=
 ⟨sr.len,sr.nd,fun n a o e1 e2=>(sr.obj n a o e1 e2).up (tf_lst h) ⟨[],by simp⟩ (upd_ne fun z=>hA (z▸List.mem_of_getElem? e1))⟩
theorem Step.acc {K:W.Frag}{H0 H:Hp}{μ0 μ:List Addr}{A:Addr}{us ws:List V} (st:Step K μ0 μ H0 H) (h0:H0 A=none) (h:H A=some (.lst us)):Step K μ0 μ H0 (upd H A (.lst ws)) :=
 ⟨st.pre,fun b o hb e=>by rw [upd_ne (ne_of_none e h0)]; exact st.fr b o hb e,st.tk.trans (tf_lst h)⟩
theorem SR.adopt {K:W.Frag}{H:Hp}{μ:List Addr}{S:Store}{A:Addr}{us:List V}{acc:List D} (sr:SR K μ S H) (hA:A∉μ) (h:H A=some (.lst us)) (r:RVs K H μ acc us):SR K (μ++[A]) (S++[.lst acc]) H:=by
 refine ⟨by simp [sr.len],?_,fun n a u e1 e2=>?_⟩
 ·rw [List.nodup_append]
  refine ⟨sr.nd,by simp,fun a ha b hb=>?_⟩
  simp at hb; subst hb
  exact fun z=>hA (z▸ha)
 ·by_cases hn:n<μ.length
  ·rw [List.getElem?_append_left hn] at e1
   rw [List.getElem?_append_left (by rw [← sr.len]; exact hn)] at e2
   exact (sr.obj n a u e1 e2).up (TF.refl _ _) ⟨[A],rfl⟩ rfl
  ·rw [List.getElem?_append_right (by omega)] at e1
   rw [List.getElem?_append_right (by rw [← sr.len]; omega)] at e2
   have h1:n - μ.length=0:=by
    have:=(List.getElem?_eq_some_iff.mp e1).1
    simp at this; omega
   rw [h1] at e1
   rw [← sr.len,h1] at e2
   simp at e1 e2
   subst e1 e2
   exact ⟨us,h,RVs.up (TF.refl _ _) ⟨[A],rfl⟩ _ _ r⟩
theorem Step.adopt {K:W.Frag}{H0 H:Hp}{μ0 μ:List Addr}{A:Addr} (st:Step K μ0 μ H0 H) (h0:H0 A=none):Step K μ0 (μ++[A]) H0 H:=by
 obtain ⟨ν,e,n⟩:=st.pre
 refine ⟨⟨ν++[A],by rw [e,List.append_assoc],fun b hb=>?_⟩,st.fr,st.tk⟩
 rcases List.mem_append.mp hb with h | h
 ·exact n b h
 ·simp at h; subst h; exact h0
theorem Step.notIn {K:W.Frag}{H H':Hp}{μ μ':List Addr}{A:Addr}{o:HO} (st:Step K μ μ' H H') (hA:A∉μ) (h:H A=some o):A∉μ':=fun z=>by
 obtain ⟨ν,rfl,n⟩:=st.pre
 rcases List.mem_append.mp z with q | q
 ·exact hA q
 ·rw [n A q] at h; cases h
inductive CompW (K:W.Frag) (items:List D) (w:Watch) (t:Tgt) (tc:CT) (c:C) (ρ0:Env1) (μ0:List Addr) (H0:Hp) (A:Addr) (S1:Store) (ys:List D) (i m:Nat) (us:List V) (H2:Hp):Prop
 | mk (him:i+m=items.length) (hus:us.length≤i) (μ2:List Addr) (S2:Store) (acc rest:List D) (sr:SR K μ2 S2 H2) (st:Step K μ0 μ2 H0 H2) (nA:A∉μ2) (hA:H2 A=some (.lst us)) (ra:RVs K H2 μ2 acc us) (el:loopC w t tc c ρ0 (items.drop i) S2=.ok rest S1) (eys:acc++rest=ys)
theorem of_comp {σ:St}{H:Hp}{Q:VK}{it:CI}{k:Nat}{js:List Nat}{t:Tgt}{tc:CT}{c:C} (ht:tgtK t≤k) (h1:1≤k) (h:tOf X.K (cComp it k js t tc c) σ H Q):tComp (tOfI X.K it) k js (tOfT' X.K t) (tOfT X.K tc) (tOf X.K c) σ H Q:=by
 obtain ⟨μ,ρ,S,d,S',sr,re,e,y⟩:=h
 obtain ⟨⟨items,w⟩,S0,e0,f0⟩:=bnd_ok e
 dsimp only at f0
 split at f0
 ·rename_i hlim
  obtain ⟨ys,S1,e1,f1⟩:=bnd_ok f0
  cases f1
  refine ⟨μ,ρ,S,items,w,S0,sr,re,e0,fun J H0 μ0 sr0 st0 io A hA=>?_⟩
  have reC:=(re.up st0).comp k js
  obtain ⟨srA,stA⟩:=sr0.other (o:=.lst []) hA
  have nA:A∉μ0:=sr0.out hA
  refine ⟨CompW X.K items w t tc c (stE k js ρ) μ0 H0 A S1 ys,
   ⟨items.length,⟨by simp,Nat.zero_le _,μ0,S0,[],ys,srA,stA,nA,upd_same,RVs.nil,by rw [List.drop_zero]; exact e1,rfl⟩⟩,?_⟩
  rintro i m us H2 ⟨him,hus,μ2,S2,acc,rest,sr2,st2,nA2,hA2,racc,el,eys⟩
  refine And.intro hA2 ?_
  by_cases hi:i<items.length
  ·rw [List.drop_eq_getElem_cons hi] at el
   unfold loopC at el
   split at el
   ·rename_i hw
    refine .inr ⟨io.go i H2 μ2 S2 sr2 st2 hw hi,lim_lt (by omega),fun x H3 hy=>?_⟩
    obtain ⟨d,hd,sr3,st3,rv⟩:=io.yld i H2 μ2 S2 x H3 sr2 st2 hw hi hy
    have ed:items[i]=d:=by rw [List.getElem?_eq_getElem hi] at hd; exact Option.some.inj hd
    rw [ed] at el
    have hA3:H3 A=some (.lst us):=st3.fr A _ nA2 hA2
    have st03:=st2.trans st3 sr3.nd
    split at el
    ·rename_i ρ4 h4
     refine bind_ok ht (reC.up st03) rv h4 (fun σ4 re4 wk=>⟨wk,?_⟩) h1
     obtain ⟨kb,S3,e3,f3⟩:=bnd_ok el
     refine ⟨μ2,ρ4,S2,kb,S3,sr3,re4,e3,fun H5 μ5 sr5 st5=>?_⟩
     have hA5:H5 A=some (.lst us):=st5.fr A _ nA2 hA3
     have nA5:=st5.notIn nA2 hA3
     have st05:=st03.trans st5 sr5.nd
     have st25:=st3.trans st5 sr5.nd
     cases kb with
     | true =>
      rw [if_pos rfl] at f3 ⊢
      obtain ⟨z,S4,e4,f4⟩:=bnd_ok f3
      obtain ⟨zs,S5,e5,f5⟩:=bnd_ok f4
      obtain ⟨rfl,rfl⟩:=ret_ok f5
      refine ⟨μ5,ρ4,S3,z,S4,sr5,re4.up st5,e4,fun v H6 μ6 sr6 st6 rv6=>?_⟩
      have hA6:H6 A=some (.lst us):=st6.fr A _ nA5 hA5
      have nA6:=st6.notIn nA5 hA5
      have st26:=st25.trans st6 sr6.nd
      have tku:TF X.K H6 (upd H6 A (.lst (us++[v]))):=tf_lst hA6
      refine ⟨hA6,m - 1,by omega,⟨by omega,by rw [List.length_append]; show us.length+1≤i+1; omega,μ6,S4,acc++[z],zs,sr6.acc nA6 hA6,(st05.trans st6 sr6.nd).acc hA hA6,nA6,upd_same,?_,e5,by rw [List.append_assoc]; exact eys⟩⟩
      exact RVs.up tku ⟨[],by simp⟩ _ _ ((RVs.up st26.tk st26.ext _ _ racc).append (.cons rv6 .nil))
     | false =>
      rw [if_neg Bool.false_ne_true] at f3 ⊢
      exact ⟨m - 1,by omega,⟨by omega,by omega,μ5,S3,acc,rest,sr5,st05,nA5,hA5,RVs.up st25.tk st25.ext _ _ racc,f3,eys⟩⟩
    ·cases el
   ·cases el
  ·have ei:i=items.length:=by omega
   subst ei
   rw [List.drop_length] at el
   unfold loopC at el
   split at el
   ·rename_i hw
    cases el
    rw [List.append_nil] at eys
    subst eys
    refine .inl ⟨io.stop H2 μ2 _ sr2 st2 hw,?_⟩
    have hA0:H A=none:=by
     cases q:H A with
     | none=>rfl
     | some o =>
      by_cases hm:A∈μ
      ·exact absurd (st0.mem hm) nA
      ·rw [st0.fr A o hm q] at hA; cases hA
    have sr3:=sr2.adopt nA2 hA2 racc
    refine y (.ref A) H2 (μ2++[A]) sr3 ((st0.trans st2 sr2.nd).adopt hA0) ?_
    unfold RV
    exact ⟨A,rfl,by rw [← sr2.len,List.getElem?_append_right (Nat.le_refl _),Nat.sub_self]; rfl⟩
   ·cases el
 ·cases f0
end
open PySem PySem.Spec PyProof.Rows
section
variable {X:Cx}
noncomputable def fStr:List D→M D:=fun xs S=>match xs with
 | [.int i]=>if i.natAbs<1000000000000000000 then .ok (.str (toString i)) S else .bad
 | _=>.bad
theorem log_small {i:Int} (hl:i.natAbs<1000000000000000000):i.natAbs.log2<1920:=by
 by_cases h0:i.natAbs=0
 ·rw [h0]; decide
 ·exact (Nat.log2_lt h0).mpr (Nat.lt_trans hl (by decide))
theorem cs_str:CallS X.K (cAny X (.type "str")) fStr:=by
 intro xs S d S' H μ vs Q e sr rx h
 unfold fStr at e
 split at e
 ·split at e
  ·rename_i hl
   cases e
   obtain ⟨v,rfl,r⟩:=rx.one
   unfold RV at r; subst r
   exact ⟨_,call_str_int,_,rfl,log_small hl,h.self sr rv_str⟩
  ·cases e
 ·cases e
noncomputable def strsD:List D→Option (List Str)
 | []=>some []
 | .str z::r=>(strsD r).map (z::·)
 | _=>none
theorem strsD_ok {K:W.Frag}{H:Hp}{μ:List Addr}:∀ {ds:List D}{ss:List Str}{vs:List V},strsD ds=some ss→RVs K H μ ds vs→vs=ss.map V.str
 | [],ss,vs,e,r=>by cases e; rw [r.nil_inv]; rfl
 | x::ds,ss,vs,e,r=>by
  cases x with
  | str z =>
   obtain ⟨ts,e1,rfl⟩:=Option.map_eq_some_iff.mp e
   obtain ⟨v,ws,rfl,r1,r2⟩:=r.cons_inv
   unfold RV at r1; subst r1
   rw [strsD_ok e1 r2]; rfl
  | _=>cases e
noncomputable def mJoin:D→List D→M D:=fun x xs S=>match x,xs with
 | .str z,[.lst n]=>match S[n]? with
  | some (.lst ys)=>match strsD ys with
   | some ss=>if JoinOk z ss=true then .ok (.str (Txt.join z ss)) S else .bad
   | none=>.bad
  | _=>.bad
 | _,_=>.bad
theorem ms_join:MtS X.K "str" (mtAnyR X "str.join") mJoin:=by
 intro x xs S d S' H μ v us Q e sr rx rs y
 unfold mJoin at e
 split at e
 ·split at e
  ·rename_i ys hl
   split at e
   ·rename_i ss hs
    split at e
    ·rename_i hj
     cases e
     unfold RV at rx; subst rx
     obtain ⟨u,rfl,ru⟩:=rs.one
     unfold RV at ru; obtain ⟨p,rfl,hm⟩:=ru
     obtain ⟨vs,hp,rr⟩:=sr.lst hm hl
     have:=strsD_ok hs rr
     subst this
     exact ⟨_,mt_join,_,p,ss,rfl,rfl,hp,hj,y.self sr rv_str⟩
    ·cases e
   ·cases e
  ·cases e
 ·cases e
noncomputable def mFind:D→List D→M D:=fun x xs S=>match x,xs with
 | .str z,[.str y]=>.ok (.int (Txt.find z y)) S
 | _,_=>.bad
theorem ms_find:MtS X.K "str" (mtAnyR X "str.find") mFind:=by
 intro x xs S d S' H μ v us Q e sr rx rs y
 unfold mFind at e
 split at e
 ·cases e
  unfold RV at rx; subst rx
  obtain ⟨u,rfl,ru⟩:=rs.one
  unfold RV at ru; subst ru
  exact ⟨_,mt_find,_,_,rfl,rfl,y.self sr rv_int⟩
 ·cases e
open Builtin Builtin.Str in
noncomputable def mSplit:D→List D→M D:=fun x xs S=>match x,xs with
 | .str z,[.str y]=>if (y.length == 0)=false∧z.length≤lim∧(partsBetween z (occurrences z y 0 z.length (z.length+1)) y.length).length≤lim then .ok (.lst S.length) (S++[.lst ((Txt.split z y).map D.str)]) else .bad
 | _,_=>.bad
theorem rvs_strs {K:W.Frag}{H:Hp}{μ:List Addr}:∀ ss:List Str,RVs K H μ (ss.map D.str) (ss.map V.str)
 | []=>.nil
 | _::ss=>.cons rv_str (rvs_strs ss)
theorem ms_split:MtS X.K "str" (mtAnyR X "str.split") mSplit:=by
 intro x xs S d S' H μ v us Q e sr rx rs y
 unfold mSplit at e
 split at e
 ·split at e
  ·rename_i hc
   cases e
   unfold RV at rx; subst rx
   obtain ⟨u,rfl,ru⟩:=rs.one
   unfold RV at ru; subst ru
   refine ⟨_,mt_split,_,_,rfl,rfl,hc.1,lim_le hc.2.1,lim_le hc.2.2,fun p hp=>?_⟩
   obtain ⟨s1,s2⟩:=sr.push (o:=.lst _) (o':=.lst _) hp ⟨_,upd_same,rvs_strs _⟩
   exact y _ _ _ s1 s2 (by unfold RV; exact ⟨p,rfl,by rw [← sr.len,List.getElem?_append_right (Nat.le_refl _),Nat.sub_self]; rfl⟩)
  ·cases e
 ·cases e
noncomputable def cFmt (a:C):C:=fun ρ=>bnd (a ρ) fun x S=>match x with
 | .int i=>if i.natAbs<1000000000000000000 then .ok (.str (toString i)) S else .bad
 | .str z=>if z.length≤lim then .ok (.str z) S else .bad
 | _=>.bad
theorem se_fmt {e:Expr}{ca:C}{pos:Pos} (ha:PE X e (tOf X.K ca)):PE X (.FormattedValue e (-1) none pos) (tOf X.K (cFmt ca)):=(pe_fmt ha).weak (by
 rintro σ H Q ⟨μ,ρ,S,d,S',sr,re,e,y⟩
 obtain ⟨x,S1,e1,e⟩:=bnd_ok e
 refine ⟨μ,ρ,S,x,S1,sr,re,e1,fun v H1 μ1 sr1 st1 r1=>?_⟩
 try dsimp only at e
 split at e
 ·split at e
  ·rename_i hl
   cases e
   unfold RV at r1; subst r1
   exact .inl ⟨_,rfl,log_small hl,(y.shift st1).self sr1 rv_str⟩
  ·cases e
 ·split at e
  ·rename_i hl
   cases e
   unfold RV at r1; subst r1
   exact .inr ⟨_,rfl,lim_le hl,(y.shift st1).self sr1 rv_str⟩
  ·cases e
 ·cases e)
noncomputable def cJS:List C→Str→C
 | [],acc=>fun _ S=>if acc.length≤lim then .ok (.str acc) S else .bad
 | c::cs,acc=>fun ρ=>bnd (c ρ) fun x S=>match x with
  | .str y=>if (acc++y).length≤lim then cJS cs (acc++y) ρ S else .bad
  | _=>.bad
theorem of_js {K:W.Frag}:∀ (cs:List C) (acc:Str) (σ:St) (H:Hp) (Q:VK),tOf K (cJS cs acc) σ H Q→tJS (cs.map (tOf K)) acc σ H Q
 | [],acc,σ,H,Q,⟨μ,ρ,S,d,S',sr,re,e,y⟩=>by
  unfold cJS at e
  split at e
  ·rename_i hl
   cases e
   exact ⟨lim_le hl,y.self sr rv_str⟩
  ·cases e
 | c::cs,acc,σ,H,Q,⟨μ,ρ,S,d,S',sr,re,e,y⟩=>by
  unfold cJS at e
  obtain ⟨x,S1,e1,e⟩:=bnd_ok e
  refine ⟨μ,ρ,S,x,S1,sr,re,e1,fun v H1 μ1 sr1 st1 r1=>?_⟩
  try dsimp only at e
  split at e
  ·split at e
   ·rename_i hl
    unfold RV at r1; subst r1
    exact ⟨_,rfl,lim_le hl,of_js cs _ σ H1 Q ⟨μ1,ρ,S1,d,S',sr1,re.up st1,e,y.shift st1⟩⟩
   ·cases e
  ·cases e
end
open PySem PySem.Spec PyProof.Rows
structure Sc where
 N:List Str
 names:List (Str × NameKind)
 fn:Option Str
noncomputable def bltL:List Str:=["len","range","list","tuple","min","max","zip","isinstance","all","any","int","bool","enumerate","str","sorted","dict","sum","repr","set","abs"]
noncomputable def txL:List (Str × Str):=[("FIGURES","0123456789")]
structure MgOk (ar:Str→Option Nat) (mg:Str→Option Value):Prop where
 b:∀ y:Str,y∈bltL→ar y=none→mg y=none
 t:∀ x z,txL.lookup x=some z→∃ t,mg x=some (.str z t)
structure XOk (X:Cx) (sc:Sc) (ar:Str→Option Nat) (cl:Str→List D→M D) (k:Nat):Prop where
 calm:X.calm=true
 N:X.N=sc.N
 nd:sc.N.Nodup
 gl:∀ x,sc.names.lookup x=some .globalImplicit→Gl X x
 loc:∀ x,sc.names.lookup x=some .local→X.env.scope.names.lookup x=some .local
 cel:∀ x,sc.names.lookup x=some .cell→X.env.scope.names.lookup x=some .cell
 fre:∀ x,sc.names.lookup x=some .free→X.env.scope.names.lookup x=some .cell∨X.env.scope.names.lookup x=some .free
 fnn:sc.fn.isSome=true→∀ x,X.fn x=true
 room:Room k X.A
 xe:X.xe=fun _ _=>False
 blt:MgOk ar X.mg
 fns:∀ x n,ar x=some n→(∃ ps,Callee X.prog X.w X.K X.mg X.base x ps k (spOf X.K (cl x) n))∧∀ ds S d S',cl x ds S=.ok d S'→ds.length=n
section
variable {X:Cx}{sc:Sc}{ar:Str→Option Nat}{cl:Str→List D→M D}{k:Nat}
theorem XOk.vis (h:XOk X sc ar cl k) {x:Str} (hv:sc.names.lookup x=some .local∨sc.names.lookup x=some .cell∨sc.names.lookup x=some .free):Vis X.env.scope x:=by
 rcases hv with q | q | q
 ·exact .inl (h.loc x q)
 ·exact .inr (.inl (h.cel x q))
 ·exact .inr (h.fre x q)
noncomputable def isVis (o:Option NameKind):Bool:=o == some .local||o == some .cell||o == some .free
theorem isVis_or {o:Option NameKind} (h:isVis o=true):o=some .local∨o=some .cell∨o=some .free:=by
 unfold isVis at h
 simp only [Bool.or_eq_true,beq_iff_eq] at h
 rcases h with (h | h) | h
 ·exact .inl h
 ·exact .inr (.inl h)
 ·exact .inr (.inr h)
noncomputable def slotOf:List Str→Str→Nat→Option Nat
 | [],_,_=>none
 | y::r,x,i=>if y=x then some i else slotOf r x (i+1)
theorem slotOf_get:∀ {N:List Str}{x:Str}{i j:Nat},slotOf N x i=some j→i≤j∧N[j - i]?=some x
 | [],_,_,_,h=>by cases h
 | y::r,x,i,j,h=>by
  unfold slotOf at h
  split at h
  ·rename_i e; cases h; subst e; exact ⟨Nat.le_refl _,by simp⟩
  ·obtain ⟨h1,h2⟩:=slotOf_get h
   refine ⟨by omega,?_⟩
   have e:j - i=(j - (i+1))+1:=by omega
   rw [e,List.getElem?_cons_succ]; exact h2
noncomputable def cName (sc:Sc) (ar:Str→Option Nat) (x:Str):Option C:=match slotOf sc.N x 0 with
 | some i=>if isVis (sc.names.lookup x)&&!(x == ("__debug__":Str))&&!(x == ("__classdict__":Str)) then some (cVar i) else none
 | none=>if sc.names.lookup x=some .globalImplicit∧ar x=none then
   (if x=("int":Str) then some (cCon (.ty "int")) else if x=("bool":Str) then some (cCon (.ty "bool")) else if x=("tuple":Str) then some (cCon (.ty "tuple"))
    else if x=("list":Str) then some (cCon (.ty "list")) else if x=("str":Str) then some (cCon (.ty "str"))
    else if (x == ("__debug__":Str))=false then (txL.lookup x).map fun z=>cCon (.str z)
    else none)
  else none
theorem s_name (h:XOk X sc ar cl k) {x:Str}{pos:Pos}{c:C} (e:cName sc ar x=some c):PE X (.Name x pos) (tOf X.K c):=by
 unfold cName at e
 split at e
 ·rename_i i hi
  split at e
  ·rename_i hv
   cases e
   simp only [Bool.and_eq_true,Bool.not_eq_true'] at hv
   obtain ⟨⟨h1,h2⟩,h3⟩:=hv
   have:=(slotOf_get hi).2
   exact se_var (pe_var (by rw [h.N]; exact this) (h.vis (isVis_or h1)) h2 h3)
  ·cases e
 ·split at e
  ·rename_i hg
   have g:=h.gl x hg.1
   have ty:∀ (n:String) (b:bootBuiltins x=some (.type n)) (hn:x ≠ "__name__") (hd:(x == ("__debug__":Str))=false) (hm:X.mg x=none),PE X (.Name x pos) (tOf X.K (cCon (.ty n))):=fun n b hn hd hm =>
    se_con (pe_bltn (v:=.ty n) g hm b rfl hn hd) fun K H μ=>by unfold RV; rfl
   split at e
   ·rename_i q; subst q; cases e
    exact ty "int" bt_int (by decide +kernel) (by decide +kernel) (h.blt.b _ (by decide +kernel) hg.2)
   ·split at e
    ·rename_i q; subst q; cases e
     exact ty "bool" bt_bool (by decide +kernel) (by decide +kernel) (h.blt.b _ (by decide +kernel) hg.2)
    ·split at e
     ·rename_i q; subst q; cases e
      exact ty "tuple" bt_tuple (by decide +kernel) (by decide +kernel) (h.blt.b _ (by decide +kernel) hg.2)
     ·split at e
      ·rename_i q; subst q; cases e
       exact ty "list" bt_list (by decide +kernel) (by decide +kernel) (h.blt.b _ (by decide +kernel) hg.2)
      ·split at e
       ·rename_i q; subst q; cases e
        exact ty "str" bt_str (by decide +kernel) (by decide +kernel) (h.blt.b _ (by decide +kernel) hg.2)
       ·split at e
        ·rename_i hd
         obtain ⟨z,hz,rfl⟩:=Option.map_eq_some_iff.mp e
         obtain ⟨tk,hm⟩:=h.blt.t x z hz
         exact se_con (pe_glob (v:=.str z) g hm ⟨tk,rfl⟩ hd) fun _ _ _=>rv_str
        ·cases e
  ·cases e
noncomputable def cConst:Const→Option C
 | .none=>some (cCon .non)
 | .bool b=>some (cCon (.bl b))
 | .int i=>some (cCon (.int i))
 | .str x=>some (cCon (.str x))
 | _=>none
theorem s_const {v:Const}{j:Nat}{pos:Pos}{c:C} (e:cConst v=some c):PE X (.Constant v j pos) (tOf X.K c):=by
 cases v with
 | none=>cases e; exact se_con pe_non fun _ _ _=>rv_non
 | bool b=>cases e; exact se_con pe_bl fun _ _ _=>rv_bl
 | int i=>cases e; exact se_con pe_int fun _ _ _=>rv_int
 | str x=>cases e; exact se_con pe_str fun _ _ _=>rv_str
 | _=>cases e
noncomputable def opBin:Operator→Option (D→D→M D)
 | .Add=>some oAdd
 | .Sub=>some (oInt fun i j=>i - j)
 | .Mult=>some oMul
 | .Mod=>some oMod
 | .FloorDiv=>some oDiv
 | .Pow=>some oPow
 | .LShift=>some oShl
 | .RShift=>some oShr
 | .BitAnd=>some (oInt Builtin.bitAnd)
 | .BitOr=>some (oInt Builtin.bitOr)
 | .BitXor=>some (oInt Builtin.bitXor)
 | _=>none
theorem s_op {op:Operator}{o:D→D→M D} (e:opBin op=some o):OpS X.K (rAny X (binaryOp op)) o:=by
 cases op with
 | Add=>cases e; exact os_add
 | Sub=>cases e; exact os_sub
 | Mult=>cases e; exact os_mul
 | Mod=>cases e; exact os_mod
 | FloorDiv=>cases e; exact os_div
 | Pow=>cases e; exact os_pow
 | LShift=>cases e; exact os_shl
 | RShift=>cases e; exact os_shr
 | BitAnd=>cases e; exact os_and
 | BitOr=>cases e; exact os_or
 | BitXor=>cases e; exact os_xor
 | _=>cases e
noncomputable def opCmp:CmpOp→Option (D→D→M D)
 | .Eq=>some oEq
 | .NotEq=>some oNe
 | .Lt=>some oLt
 | .LtE=>some (oCmp fun i j=>decide (i≤j))
 | .Gt=>some (oCmp fun i j=>decide (j<i))
 | .GtE=>some (oCmp fun i j=>decide (j≤i))
 | .Is=>some oIs
 | .IsNot=>some oIsNot
 | .In=>some (oIn false)
 | .NotIn=>some (oIn true)
theorem s_cmp (h:Room k X.A) {op:CmpOp}{o:D→D→M D} (e:opCmp op=some o):OpS X.K (rAny X (compareOp op)) o:=by
 have h1:=h.units
 have h2:=h.units0
 have h3:X.A.units+1<cLine:=hu_of h
 cases op with
 | Eq=>cases e; exact os_eq h1
 | NotEq=>cases e; exact os_ne h1
 | Lt=>cases e; exact os_lt h2
 | LtE=>cases e; exact os_le
 | Gt=>cases e; exact os_gt
 | GtE=>cases e; exact os_ge
 | Is=>cases e; exact os_is
 | IsNot=>cases e; exact os_isNot
 | In=>cases e; exact os_in h1
 | NotIn=>cases e; exact os_notIn h1
noncomputable def notStar:Expr→Bool
 | .Starred _ _=>false
 | _=>true
theorem star_cons {a:Expr}{es:List Expr}{env:Env} (h:notStar a=true):starEach (a::es) env=(false,eval a env)::starEach es env:=by
 cases a <;> first | rfl | cases h
noncomputable def cArgs? (f:Expr→Option C):List Expr→Option (List C)
 | []=>some []
 | e::es=>if notStar e then (f e).bind fun c=>(cArgs? f es).map (c::·) else none
def Keeps (X:Cx) (f:Expr→Option C):Prop:=∀ e c,f e=some c→PE X e (tOf X.K c)
variable {f:Expr→Option C}
theorem s_args (hf:Keeps X f):∀ {es:List Expr}{cs:List C},cArgs? f es=some cs→PA X es (tOfA X.K (cArgs cs))∧(∀ e∈es,notStar e=true)
 | [],cs,e=>by cases e; exact ⟨sa_nil,by simp⟩
 | a::es,cs,e=>by
  unfold cArgs? at e
  split at e
  ·rename_i hs
   obtain ⟨c,e1,e⟩:=Option.bind_eq_some_iff.mp e
   obtain ⟨cs',e2,e⟩:=Option.map_eq_some_iff.mp e
   subst e
   obtain ⟨h1,h2⟩:=s_args hf e2
   exact ⟨sa_cons (hf a c e1) h1 (star_cons hs),fun e he=>by
    rcases List.mem_cons.mp he with rfl | he
    ·exact hs
    ·exact h2 e he⟩
  ·cases e
theorem noStar_any {es:List Expr}{env:Env}{pos:Pos} (h:∀ e∈es,notStar e=true):(backTo pos (starEach es env)).any (·.1)=false:=by
 induction es with
 | nil=>rfl
 | cons a es ih =>
  rw [star_cons (h a (by simp))]
  show (false||(backTo pos (starEach es env)).any (·.1))=false
  rw [ih fun e he=>h e (by simp [he])]; rfl
noncomputable def isSlice:Expr→Bool
 | .Slice _ _ _ _=>true
 | _=>false
theorem plainIx {b:Expr} (h:isSlice b=false):PlainIx b:=by
 cases b <;> first | (intro o i; rfl) | cases h
noncomputable def cPart? (f:Expr→Option C):Option Expr→Option CO
 | none=>some cNoPart
 | some e=>(f e).map cPart
theorem s_part (hf:Keeps X f) {e:Option Expr}{c:CO} (h:cPart? f e=some c):PO X e (tOfO X.K c):=by
 cases e with
 | none=>cases h; exact so_none
 | some a =>
  obtain ⟨ca,e1,e2⟩:=Option.map_eq_some_iff.mp h
  subst e2
  exact so_some (hf a ca e1)
noncomputable def cSub (f:Expr→Option C) (a b:Expr):Option C:=match b with
 | .Slice lo hi none _=>(f a).bind fun ca=>(cPart? f lo).bind fun cl=>(cPart? f hi).map fun ch=>cSl oSl ca cl ch
 | _=>if isSlice b then none else (f a).bind fun ca=>(f b).map fun cb=>cBin oIx ca cb
theorem s_sub (h:Room k X.A) (hf:Keeps X f) {a b:Expr}{pos:Pos}{c:C} (e:cSub f a b=some c):PE X (.Subscript a b pos) (tOf X.K c):=by
 unfold cSub at e
 split at e
 ·obtain ⟨ca,e1,e⟩:=Option.bind_eq_some_iff.mp e
  obtain ⟨cl,e2,e⟩:=Option.bind_eq_some_iff.mp e
  obtain ⟨ch,e3,e⟩:=Option.map_eq_some_iff.mp e
  subst e
  exact se_slice ss_sl (hf a ca e1) (s_part hf e2) (s_part hf e3)
 ·split at e
  ·cases e
  ·rename_i hs
   obtain ⟨ca,e1,e⟩:=Option.bind_eq_some_iff.mp e
   obtain ⟨cb,e2,e⟩:=Option.map_eq_some_iff.mp e
   subst e
   exact se_ix (os_ix (hu_of h)) (hf a ca e1) (hf b cb e2) (plainIx (by simpa using hs))
noncomputable def cCompare (f:Expr→Option C) (a:Expr) (ops:List CmpOp) (bs:List Expr):Option C:=match ops,bs with
 | [op],[b]=>if behindInMarks op b then none else (opCmp op).bind fun o=>(f a).bind fun ca=>(f b).map fun cb=>cBin o ca cb
 | [op,op'],[b,c]=>if lastMarks [op,op'] [b,c] then none else (opCmp op).bind fun o=>(opCmp op').bind fun o'=>(f a).bind fun ca=>(f b).bind fun cb=>(f c).map fun cc=>cChain o o' ca cb cc
 | _,_=>none
theorem s_compare (h:Room k X.A) (hf:Keeps X f) {a:Expr}{ops:List CmpOp}{bs:List Expr}{pos:Pos}{c:C} (e:cCompare f a ops bs=some c):PE X (.Compare a ops bs pos) (tOf X.K c):=by
 unfold cCompare at e
 split at e
 ·rename_i op b
  split at e
  ·cases e
  ·rename_i hm
   obtain ⟨o,e0,e⟩:=Option.bind_eq_some_iff.mp e
   obtain ⟨ca,e1,e⟩:=Option.bind_eq_some_iff.mp e
   obtain ⟨cb,e2,e⟩:=Option.map_eq_some_iff.mp e
   subst e
   exact se_cmp (s_cmp h e0) (hf a ca e1) (hf b cb e2) (by simpa using hm)
 ·rename_i op op' b c
  split at e
  ·cases e
  ·rename_i hm
   obtain ⟨o,e0,e⟩:=Option.bind_eq_some_iff.mp e
   obtain ⟨o',e0',e⟩:=Option.bind_eq_some_iff.mp e
   obtain ⟨ca,e1,e⟩:=Option.bind_eq_some_iff.mp e
   obtain ⟨cb,e2,e⟩:=Option.bind_eq_some_iff.mp e
   obtain ⟨cc,e3,e⟩:=Option.map_eq_some_iff.mp e
   subst e
   exact se_chain (s_cmp h e0) (s_cmp h e0') (hf a ca e1) (hf b cb e2) (hf c cc e3) (by simpa using hm)
 ·cases e
noncomputable def tCompare (f:Expr→Option C) (a:Expr) (ops:List CmpOp) (bs:List Expr):Option CT:=match ops,bs with
 | [op,op',op2],[b,c,d]=>if lastMarks [op,op',op2] [b,c,d] then none else (opCmp op).bind fun o=>(opCmp op').bind fun o'=>(opCmp op2).bind fun o2=>(f a).bind fun ca=>(f b).bind fun cb=>(f c).bind fun cc=>(f d).map fun cd=>cChain3 o o' o2 ca cb cc cd
 | ops,bs=>(cCompare f a ops bs).map cBool
theorem s_tcompare (h:Room k X.A) (hf:Keeps X f) {a:Expr}{ops:List CmpOp}{bs:List Expr}{pos:Pos}{c:CT} (e:tCompare f a ops bs=some c):PT X (.Compare a ops bs pos) (tOfT X.K c):=by
 unfold tCompare at e
 split at e
 ·rename_i op op' op2 b c d
  split at e
  ·cases e
  ·rename_i hm
   obtain ⟨o,e0,e⟩:=Option.bind_eq_some_iff.mp e
   obtain ⟨o',e0',e⟩:=Option.bind_eq_some_iff.mp e
   obtain ⟨o2,e02,e⟩:=Option.bind_eq_some_iff.mp e
   obtain ⟨ca,e1,e⟩:=Option.bind_eq_some_iff.mp e
   obtain ⟨cb,e2,e⟩:=Option.bind_eq_some_iff.mp e
   obtain ⟨cc,e3,e⟩:=Option.bind_eq_some_iff.mp e
   obtain ⟨cd,e4,e⟩:=Option.map_eq_some_iff.mp e
   subst e
   exact st_chain3 (s_cmp h e0) (s_cmp h e0') (s_cmp h e02) (hf a ca e1) (hf b cb e2) (hf c cc e3) (hf d cd e4) (by simpa using hm)
 ·obtain ⟨cc,e1,e⟩:=Option.map_eq_some_iff.mp e
  subst e
  unfold cCompare at e1
  split at e1
  ·split at e1
   ·cases e1
   ·rename_i hm
    obtain ⟨o,e0,e⟩:=Option.bind_eq_some_iff.mp e1
    obtain ⟨ca,g1,e⟩:=Option.bind_eq_some_iff.mp e
    obtain ⟨cb,e2,e⟩:=Option.map_eq_some_iff.mp e
    subst e
    exact st_cmp (s_cmp h e0) (hf _ ca g1) (hf _ cb e2) (by simpa using hm)
  ·split at e1
   ·cases e1
   ·rename_i hm
    obtain ⟨o,e0,e⟩:=Option.bind_eq_some_iff.mp e1
    obtain ⟨o',e0',e⟩:=Option.bind_eq_some_iff.mp e
    obtain ⟨ca,g1,e⟩:=Option.bind_eq_some_iff.mp e
    obtain ⟨cb,e2,e⟩:=Option.bind_eq_some_iff.mp e
    obtain ⟨cc,e3,e⟩:=Option.map_eq_some_iff.mp e
    subst e
    exact st_chain (s_cmp h e0) (s_cmp h e0') (hf _ ca g1) (hf _ cb e2) (hf _ cc e3) (by simpa using hm)
  ·cases e1
noncomputable def plainRecv:Expr→Bool
 | .Name _ _=>true
 | .Subscript _ _ _=>true
 | .Call _ (_::_) _ _=>true
 | .Constant (.str _) _ _=>true
 | _=>false
theorem base_ok {o:Expr}{name:Str}{env:Env} (h:plainRecv o=true):attributeBase o name env (eval o env)=eval o env:=by
 cases o with
 | Call f args kw pos =>
  cases args with
  | nil=>cases h
  | cons a r=>cases f <;> rfl
 | Constant v j pos=>cases v <;> first | rfl | cases h
 | _=>first | rfl | cases h
noncomputable def txBlt (x:Str):Option (List D→M D):=if x=("str":Str) then some fStr else none
noncomputable def bltOf (x:Str):Option (List D→M D) :=
 if x=("len":Str) then some fLen else
 if x=("isinstance":Str) then some fInst else
 if x=("tuple":Str) then some fTuple else
 if x=("list":Str) then some fList else
 if x=("min":Str) then some fMin else
 if x=("max":Str) then some fMax else
 if x=("all":Str) then some (fBools fun bs=>bs.all id) else
 if x=("any":Str) then some (fBools fun bs=>bs.any id) else
 if x=("int":Str) then some fInt else
 txBlt x
noncomputable def rangeArgs:Expr→Option (List Expr)
 | .Call (.Name x _) as [] _=>if x=("range":Str) then some as else none
 | _=>none
noncomputable def fListR:List D→M D:=fun xs S=>match xs with
 | [.int j]=>if -4611686018427387904≤j∧j<4611686018427387904∧j≤1000 then .ok (.lst S.length) (S++[.lst (upD 0 j.toNat)]) else .bad
 | [.int i,.int j]=>if -4611686018427387904≤i∧i<4611686018427387904∧-4611686018427387904≤j∧j<4611686018427387904∧j - i≤1000 then .ok (.lst S.length) (S++[.lst (upD i (j - i).toNat)]) else .bad
 | _=>.bad
noncomputable def cCallN (sc:Sc) (ar:Str→Option Nat) (cl:Str→List D→M D) (f:Expr→Option C) (x:Str) (es:List Expr):Option C :=
 if sc.names.lookup x=some .globalImplicit then
  match ar x with
  | some n=>if es.length=n∧es≠[]∧(x == ("__debug__":Str))=false then (cArgs? f es).map fun cs=>cApp (cl x) (cArgs cs) else none
  | none=>match es with
   | [e] =>
    match rangeArgs e with
    | some as=>if x=("list":Str)∧ar "range"=none∧sc.names.lookup ("range":Str)=some .globalImplicit∧(as.length=1∨as.length=2) then (cArgs? f as).map fun cs=>cApp fListR (cArgs cs) else none
    | none=>(bltOf x).bind fun o=>(cArgs? f es).map fun cs=>cApp o (cArgs cs)
   | _::_=>(bltOf x).bind fun o=>(cArgs? f es).map fun cs=>cApp o (cArgs cs)
   | []=>none
 else none
theorem vals_upD {K:W.Frag}{H:Hp}{μ:List Addr} (lo:Int) (n:Nat):RVs K H μ (upD lo n) (upV lo n):=by
 unfold upD upV
 generalize List.range n=l
 induction l with
 | nil=>exact .nil
 | cons a r ih=>exact .cons rv_int ih
set_option maxHeartbeats 2000000 in
theorem s_blt (h:XOk X sc ar cl k) {x:Str} (hx:sc.names.lookup x=some .globalImplicit) (hn:ar x=none) {o:List D→M D} (eo:bltOf x=some o) {e:Expr}{es:List Expr}{cs:List C} (ha:PA X (e::es) (tOfA X.K (cArgs cs))) (hs:∀ a∈e::es,notStar a=true) {p pos:Pos}:PE X (.Call (.Name x p) (e::es) [] pos) (tOf X.K (cApp o (cArgs cs))):=by
 have g:=h.gl x hx
 have s1:=star_cons (es:=es) (env:=X.env) (hs e (by simp))
 have s2:(backTo pos (starEach es X.env)).any (·.1)=false:=noStar_any fun a ha=>hs a (by simp [ha])
 unfold bltOf at eo
 have B:∀ (id:String) (hb:bootBuiltins x=some (.builtin id)) (hm:X.mg x=none) (hne:x ≠ "__name__") (hd:(x == ("__debug__":Str))=false) (o:List D→M D),CallS X.K (cAny X (.builtin id)) o→PE X (.Call (.Name x p) (e::es) [] pos) (tOf X.K (cApp o (cArgs cs))):=fun id hb hm hne hd o ho =>
  (pe_callB callAny g hm hb ha hne hd s1 s2).weak (of_app ho)
 have T:∀ (id:String) (hb:bootBuiltins x=some (.type id)) (hm:X.mg x=none) (hne:x ≠ "__name__") (hd:(x == ("__debug__":Str))=false) (o:List D→M D),CallS X.K (cAny X (.type id)) o→PE X (.Call (.Name x p) (e::es) [] pos) (tOf X.K (cApp o (cArgs cs))):=fun id hb hm hne hd o ho =>
  (pe_callTy callAny g hm hb ha hne hd s1 s2).weak (of_app ho)
 split at eo
 ·rename_i q; subst q; cases eo; exact B "len" bt_len (h.blt.b _ (by decide +kernel) hn) (by decide +kernel) (by decide +kernel) _ cs_len
 split at eo
 ·rename_i q; subst q; cases eo; exact B "isinstance" bt_isinstance (h.blt.b _ (by decide +kernel) hn) (by decide +kernel) (by decide +kernel) _ cs_inst
 split at eo
 ·rename_i q; subst q; cases eo; exact T "tuple" bt_tuple (h.blt.b _ (by decide +kernel) hn) (by decide +kernel) (by decide +kernel) _ cs_tuple
 split at eo
 ·rename_i q; subst q; cases eo; exact T "list" bt_list (h.blt.b _ (by decide +kernel) hn) (by decide +kernel) (by decide +kernel) _ cs_list
 split at eo
 ·rename_i q; subst q; cases eo; exact B "min" bt_min (h.blt.b _ (by decide +kernel) hn) (by decide +kernel) (by decide +kernel) _ (cs_min h.calm)
 split at eo
 ·rename_i q; subst q; cases eo; exact B "max" bt_max (h.blt.b _ (by decide +kernel) hn) (by decide +kernel) (by decide +kernel) _ (cs_max h.calm)
 split at eo
 ·rename_i q; subst q; cases eo; exact B "all" bt_all (h.blt.b _ (by decide +kernel) hn) (by decide +kernel) (by decide +kernel) _ (cs_all h.calm)
 split at eo
 ·rename_i q; subst q; cases eo; exact B "any" bt_any (h.blt.b _ (by decide +kernel) hn) (by decide +kernel) (by decide +kernel) _ (cs_any h.calm)
 split at eo
 ·rename_i q; subst q; cases eo; exact T "int" bt_int (h.blt.b _ (by decide +kernel) hn) (by decide +kernel) (by decide +kernel) _ cs_int
 unfold txBlt at eo
 split at eo
 ·rename_i q; subst q; cases eo; exact T "str" bt_str (h.blt.b _ (by decide +kernel) hn) (by decide +kernel) (by decide +kernel) _ cs_str
 ·cases eo
theorem s_listR (h:XOk X sc ar cl k) (hx:sc.names.lookup ("list":Str)=some .globalImplicit) (hn:ar "list"=none) (hr:sc.names.lookup ("range":Str)=some .globalImplicit) (hnr:ar "range"=none) {as:List Expr}{cs:List C} (ha:PA X as (tOfA X.K (cArgs cs))) (hs:∀ a∈as,notStar a=true) (hl:as.length=1∨as.length=2) {p pos p2 pos2:Pos} :
  PE X (.Call (.Name "list" p) [.Call (.Name "range" p2) as [] pos2] [] pos) (tOf X.K (cApp fListR (cArgs cs))):=by
 have g1:=h.gl _ hx
 have g2:=h.gl _ hr
 have R:PE X (.Call (.Name "range" p2) as [] pos2) (tCB (cAny X (.type "range")) (tOfA X.K (cArgs cs))):=by
  cases as with
  | nil=>simp at hl
  | cons e es=>exact pe_callTy callAny g2 (h.blt.b _ (by decide +kernel) hnr) bt_range ha (by decide +kernel) (by decide +kernel) (star_cons (hs e (by simp))) (noStar_any fun a ha=>hs a (by simp [ha]))
 have L:=pe_callTy (p:=p) (pos:=pos) (callAny (X:=X) (f:=.type "list")) g1 (h.blt.b _ (by decide +kernel) hn) bt_list (pa_cons R pa_nil rfl) (by decide +kernel) (by decide +kernel) rfl rfl
 refine L.weak ?_
 rintro σ H Q ⟨μ,ρ,S,d,S',sr,re,e,y⟩
 obtain ⟨xs,S1,e1,e⟩:=bnd_ok e
 refine ⟨μ,ρ,S,xs,S1,sr,re,e1,fun vs H1 μ1 sr1 st1 r1=>?_⟩
 have y1:=y.shift st1
 have fin:∀ (i j:Int),-4611686018427387904≤i→i<4611686018427387904→-4611686018427387904≤j→j<4611686018427387904→j - i≤1000→Yld X.K μ1 H1 (.lst S1.length) (S1++[.lst (upD i (j - i).toNat)]) Q→∀ q,H1 q=none→cAny X (.type "list") [.ref q] (upd H1 q (.rng i j)) Q:=by
  intro i j b1 b2 b3 b4 b5 y1 q hq
  obtain ⟨sr2,st2⟩:=sr1.other (o:=.rng i j) hq
  exact ⟨_,call_list_rng h.calm,q,i,j,rfl,upd_same,b1,b2,b3,b4,by omega,fun l hl=>(y1.shift st2).newL sr2 hl (vals_upD _ _)⟩
 unfold fListR at e
 split at e
 ·rename_i j
  split at e
  ·rename_i hb
   cases e
   obtain ⟨v,rfl,r⟩:=r1.one
   unfold RV at r; subst r
   refine ⟨_,call_range1,j,rfl,fun q hq=>?_⟩
   have:=fin 0 j (by decide) (by decide) hb.1 hb.2.1 (by omega) (by rw [Int.sub_zero]; exact y1) q hq
   exact this
  ·cases e
 ·rename_i i j
  split at e
  ·rename_i hb
   cases e
   obtain ⟨v,u,rfl,r,r'⟩:=r1.two
   unfold RV at r r'; subst r r'
   exact ⟨_,call_range2,i,j,rfl,fun q hq=>fin i j hb.1 hb.2.1 hb.2.2.1 hb.2.2.2.1 hb.2.2.2.2 y1 q hq⟩
  ·cases e
 ·cases e
theorem s_callN (h:XOk X sc ar cl k) (hf:Keeps X f) {x:Str}{es:List Expr}{c:C}{p pos:Pos} (e:cCallN sc ar cl f x es=some c):PE X (.Call (.Name x p) es [] pos) (tOf X.K c):=by
 unfold cCallN at e
 split at e
 ·rename_i hx
  split at e
  ·rename_i n hn
   split at e
   ·rename_i hc
    obtain ⟨hl,hne,hd⟩:=hc
    obtain ⟨cs,e1,e⟩:=Option.map_eq_some_iff.mp e
    subst e
    obtain ⟨h1,h2⟩:=s_args hf e1
    obtain ⟨⟨ps,Ca⟩,hlen⟩:=h.fns x n hn
    cases es with
    | nil=>exact absurd rfl hne
    | cons a es =>
     exact (pe_callC (p:=p) (pos:=pos) Ca h.room (h.gl x hx) h1 (Nat.le_refl _) hd (star_cons (h2 a (by simp))) (noStar_any fun b hb=>h2 b (by simp [hb]))).weak (of_call hlen)
   ·cases e
  ·rename_i hn
   split at e
   ·rename_i a
    split at e
    ·rename_i as ha
     split at e
     ·rename_i hc
      obtain ⟨rfl,hnr,hr,hl⟩:=hc
      obtain ⟨cs,e1,e⟩:=Option.map_eq_some_iff.mp e
      subst e
      obtain ⟨h1,h2⟩:=s_args hf e1
      unfold rangeArgs at ha
      split at ha
      ·rename_i x' p' as' pos'
       split at ha
       ·rename_i q; subst q; cases ha
        exact s_listR h hx hn hr hnr h1 h2 hl
       ·cases ha
      ·cases ha
     ·cases e
    ·obtain ⟨o,e0,e⟩:=Option.bind_eq_some_iff.mp e
     obtain ⟨cs,e1,e⟩:=Option.map_eq_some_iff.mp e
     subst e
     obtain ⟨h1,h2⟩:=s_args hf e1
     exact s_blt h hx hn e0 h1 h2
   ·obtain ⟨o,e0,e⟩:=Option.bind_eq_some_iff.mp e
    obtain ⟨cs,e1,e⟩:=Option.map_eq_some_iff.mp e
    subst e
    obtain ⟨h1,h2⟩:=s_args hf e1
    exact s_blt h hx hn e0 h1 h2
   ·cases e
 ·cases e
end
open PySem PySem.Spec PyProof.Rows
section
variable {X:Cx}{sc:Sc}{ar:Str→Option Nat}{cl:Str→List D→M D}{k:Nat}{f:Expr→Option C}
noncomputable def meth0 (m:Str) (co:C):Option C :=
 none
noncomputable def meth1 (m:Str) (co ca:C):Option C :=
 if m=("append":Str) then some (cMeth "list" (mList gAppend) co (cArgs [ca])) else
 if m=("join":Str) then some (cMeth "str" mJoin co (cArgs [ca])) else
 if m=("find":Str) then some (cMeth "str" mFind co (cArgs [ca])) else
 if m=("split":Str) then some (cMeth "str" mSplit co (cArgs [ca])) else
 none
noncomputable def meth2 (m:Str) (co ca cb:C):Option C :=
 if m=("insert":Str) then some (cMeth "list" (mList gInsert) co (cArgs [ca,cb])) else
 none
noncomputable def cMethod (f:Expr→Option C) (o:Expr) (m:Str) (es:List Expr) (apos cpos:Pos):Option C :=
 if plainRecv o&&(apos.endLine == cpos.line) then (f o).bind fun co=>match es with
  | []=>meth0 m co
  | [a]=>if notStar a then (f a).bind fun ca=>meth1 m co ca else none
  | [a,b]=>if notStar a&&notStar b then (f a).bind fun ca=>(f b).bind fun cb=>meth2 m co ca cb else none
  | _=>none
 else none
theorem s_method (hr0:Room k X.A) (hf:Keeps X f) {o:Expr}{m:Str}{es:List Expr}{apos cpos:Pos}{c:C} (e:cMethod f o m es apos cpos=some c):PE X (.Call (.Attribute o m apos) es [] cpos) (tOf X.K c):=by
 unfold cMethod at e
 split at e
 ·rename_i hc
  rw [Bool.and_eq_true] at hc
  obtain ⟨hr,hl⟩:=hc
  obtain ⟨co,e0,g⟩:=Option.bind_eq_some_iff.mp e
  clear e
  have hb:∀ name,attributeBase o name X.env (eval o X.env)=eval o X.env:=fun name=>base_ok hr
  split at g
  ·unfold meth0 at g
   cases g
  ·rename_i a
   split at g
   ·rename_i hs
    obtain ⟨ca,e1,g'⟩:=Option.bind_eq_some_iff.mp g
    clear g
    have s1:=star_cons (es:=[]) (env:=X.env) hs
    have hA:PA X [a] (tOfA X.K (cArgs [ca])):=sa_cons (hf a ca e1) sa_nil s1
    have hfew:((backTo cpos (starEach [a] X.env)).all (fun x=>!x.1)&&(backToKw cpos (keywordEach [] X.env)).all (fun x=>x.1.isSome)
     && decide ([a].length+([]:List Keyword).length+(if ([]:List Keyword).isEmpty then 0 else 1)<30))=true:=by rw [s1]; rfl
    unfold meth1 at g'
    split at g'
    ·rename_i q; subst q; cases g'
     exact se_meth PySem.F.plainAttrs_list PySem.F.slot_list_append PySem.F.type_list_append ms_append (hf o co e0) hA (hb _) hfew hl s1 rfl
    split at g'
    ·rename_i q; subst q; cases g'
     exact se_meth PySem.F.plainAttrs_str PySem.F.slot_str_join PySem.F.type_str_join ms_join (hf o co e0) hA (hb _) hfew hl s1 rfl
    split at g'
    ·rename_i q; subst q; cases g'
     exact se_meth PySem.F.plainAttrs_str PySem.F.slot_str_find PySem.F.type_str_find ms_find (hf o co e0) hA (hb _) hfew hl s1 rfl
    split at g'
    ·rename_i q; subst q; cases g'
     exact se_meth PySem.F.plainAttrs_str PySem.F.slot_str_split PySem.F.type_str_split ms_split (hf o co e0) hA (hb _) hfew hl s1 rfl
    cases g'
   ·cases g
  ·rename_i a b
   split at g
   ·rename_i hs
    rw [Bool.and_eq_true] at hs
    obtain ⟨ca,e1,g1⟩:=Option.bind_eq_some_iff.mp g
    obtain ⟨cb,e2,g'⟩:=Option.bind_eq_some_iff.mp g1
    clear g g1
    have s2:=star_cons (es:=[]) (env:=X.env) hs.2
    have s1:=star_cons (es:=[b]) (env:=X.env) hs.1
    have hA:PA X [a,b] (tOfA X.K (cArgs [ca,cb])):=sa_cons (hf a ca e1) (sa_cons (hf b cb e2) sa_nil s2) s1
    have hfew:((backTo cpos (starEach [a,b] X.env)).all (fun x=>!x.1)&&(backToKw cpos (keywordEach [] X.env)).all (fun x=>x.1.isSome)
     && decide ([a,b].length+([]:List Keyword).length+(if ([]:List Keyword).isEmpty then 0 else 1)<30))=true:=by rw [s1,s2]; rfl
    unfold meth2 at g'
    split at g'
    ·rename_i q; subst q; cases g'
     exact se_meth PySem.F.plainAttrs_list PySem.F.slot_list_insert PySem.F.type_list_insert ms_insert (hf o co e0) hA (hb _) hfew hl s1 (by rw [s2]; rfl)
    cases g'
   ·cases g
  ·cases g
 ·cases e
noncomputable def cJoined (f:Expr→Option C):List Expr→Option C
 | e1::e2::es=>(cArgs? f (e1::e2::es)).map fun cs=>cJS cs Str.empty
 | _=>none
theorem s_each (hf:Keeps X f):∀ {es:List Expr}{cs:List C},cArgs? f es=some cs→PEs X es (cs.map (tOf X.K))
 | [],cs,e=>by cases e; exact .nil
 | a::es,cs,e=>by
  unfold cArgs? at e
  split at e
  ·obtain ⟨c,e1,e⟩:=Option.bind_eq_some_iff.mp e
   obtain ⟨cs',e2,rfl⟩:=Option.map_eq_some_iff.mp e
   exact .cons (hf a c e1) (s_each hf e2)
  ·cases e
theorem s_joined (hf:Keeps X f) {es:List Expr}{pos:Pos}{c:C} (e:cJoined f es=some c):PE X (.JoinedStr es pos) (tOf X.K c):=by
 unfold cJoined at e
 split at e
 ·obtain ⟨cs,e1,rfl⟩:=Option.map_eq_some_iff.mp e
  exact (pe_joined (s_each hf e1)).weak (of_js _ _)
 ·cases e
noncomputable def cDNew:C:=fun _ S=>.ok (.dct S.length) (S++[.dk []])
theorem se_dnew {pos:Pos}:PE X (.Dict [] [] pos) (tOf X.K cDNew):=pe_dnewK.weak (by
 rintro σ H Q ⟨μ,ρ,S,d,S',sr,re,e,y⟩
 unfold cDNew at e
 cases e
 intro p hp
 obtain ⟨s1,s2⟩:=sr.push (o:=.dK []) (o':=.dk []) hp ⟨[],upd_same,RKs.nil⟩
 exact y _ _ _ s1 s2 (by unfold RV; exact ⟨p,rfl,by rw [← sr.len,List.getElem?_append_right (Nat.le_refl _),Nat.sub_self]; rfl⟩))
noncomputable def cDOne (a b:C):C:=fun ρ=>bnd (a ρ) fun x=>bnd (b ρ) fun y S=>match keyOf x with
 | some k=>.ok (.dct S.length) (S++[.dk [(k,y)]])
 | none=>.bad
theorem se_done {a b:Expr}{ca cb:C}{pos:Pos} (ha:PE X a (tOf X.K ca)) (hb:PE X b (tOf X.K cb)):PE X (.Dict [some a] [b] pos) (tOf X.K (cDOne ca cb)):=(pe_disp (pps_cons ha hb pps_nil) rfl rfl (by simp) (by simp)).weak (by
 rintro σ H Q ⟨μ,ρ,S,d,S',sr,re,e,y⟩
 obtain ⟨x,S1,e1,f1⟩:=bnd_ok e
 obtain ⟨z,S2,e2,f2⟩:=bnd_ok f1
 split at f2
 ·rename_i key hk
  cases f2
  intro p hp
  obtain ⟨s1,s2⟩:=sr.other (o:=.dK []) hp
  refine ⟨μ,ρ,S,x,S1,s1,re.up s2,e1,fun v H1 μ1 sr1 st1 r1=>⟨μ1,ρ,S1,z,S2,sr1,(re.up s2).up st1,e2,fun u H2 μ2 sr2 st2 r2=>?_⟩⟩
  have n0:p∉μ:=sr.out hp
  have q0:upd H p (.dK []) p=some (.dK []):=upd_same
  have q1:=st1.fr p _ n0 q0
  have n1:=st1.notIn n0 q0
  have q2:=st2.fr p _ n1 q1
  have n2:=st2.notIn n1 q1
  have ev:=keyOf_v hk r1
  subst ev
  refine ⟨q2,[(key,u)],rfl,by simp,?_⟩
  have e3:mergeK [] [(key,u)]=[(key,u)]:=by simp [mergeK,putK]
  rw [e3]
  have tk:TF X.K H2 (upd H2 p (.dK [(key,u)])):=tf_upd q2 (fun _ z=>by cases z) (fun _ _ z=>by cases z)
  have st12:=st1.trans st2 sr2.nd
  have st02:Step X.K μ μ2 H H2:=s2.trans st12 sr2.nd
  have sr3:SR X.K (μ2++[p]) (S2++[.dk [(key,z)]]) (upd H2 p (.dK [(key,u)])):=by
   refine ⟨by simp [sr2.len],?_,fun n a w g1 g2=>?_⟩
   ·rw [List.nodup_append]
    refine ⟨sr2.nd,by simp,fun a ha b hb=>?_⟩
    simp at hb; subst hb
    exact fun z=>n2 (z▸ha)
   ·by_cases hn:n<μ2.length
    ·rw [List.getElem?_append_left hn] at g1
     rw [List.getElem?_append_left (by rw [← sr2.len]; exact hn)] at g2
     exact (sr2.obj n a w g1 g2).up tk ⟨[p],rfl⟩ (upd_ne fun z=>n2 (z▸List.mem_of_getElem? g1))
    ·rw [List.getElem?_append_right (by omega)] at g1
     rw [List.getElem?_append_right (by rw [← sr2.len]; omega)] at g2
     have h1:n - μ2.length=0:=by
      have:=(List.getElem?_eq_some_iff.mp g1).1
      simp at this; omega
     rw [h1] at g1
     rw [← sr2.len,h1] at g2
     simp at g1 g2
     subst g1 g2
     exact ⟨[(key,u)],upd_same,RKs.cons (RV.up tk ⟨[p],rfl⟩ _ _ r2) .nil⟩
  have st3:Step X.K μ (μ2++[p]) H (upd H2 p (.dK [(key,u)])):=by
   obtain ⟨ν,e4,n⟩:=st02.pre
   refine ⟨⟨ν++[p],by rw [e4,List.append_assoc],fun b hb=>?_⟩,fun b o hb q=>by rw [upd_ne (ne_of_none q hp)]; exact st02.fr b o hb q,st02.tk.trans tk⟩
   rcases List.mem_append.mp hb with h | h
   ·exact n b h
   ·simp at h; subst h; exact hp
  exact y _ _ _ sr3 st3 (by unfold RV; exact ⟨p,rfl,by rw [← sr2.len,List.getElem?_append_right (Nat.le_refl _),Nat.sub_self]; rfl⟩)
 ·cases f2)
noncomputable def cDict (f:Expr→Option C) (ks:List (Option Expr)) (vs:List Expr):Option C:=match ks,vs with
 | [],[]=>some cDNew
 | [some a],[b]=>(f a).bind fun ca=>(f b).map fun cb=>cDOne ca cb
 | _,_=>none
theorem s_dict (hf:Keeps X f) {ks:List (Option Expr)}{vs:List Expr}{pos:Pos}{c:C} (e:cDict f ks vs=some c):PE X (.Dict ks vs pos) (tOf X.K c):=by
 unfold cDict at e
 split at e
 ·cases e; exact se_dnew
 ·obtain ⟨ca,e1,e⟩:=Option.bind_eq_some_iff.mp e
  obtain ⟨cb,e2,e⟩:=Option.map_eq_some_iff.mp e
  subst e
  exact se_done (hf _ _ e1) (hf _ _ e2)
 ·cases e
noncomputable def cBoolV (op:BoolOp) (f:Expr→Option C):List Expr→Option C
 | []=>none
 | [a]=>f a
 | a::b::r=>(f a).bind fun ca=>(cBoolV op f (b::r)).map fun cb=>match op with
  | .And=>cAndV ca cb
  | .Or=>cOrV ca cb
theorem s_boolV (hf:Keeps X f) {op:BoolOp}{pos:Pos}:∀ {vs:List Expr}{c:C},cBoolV op f vs=some c→PE X (.BoolOp op vs pos) (tOf X.K c)
 | [],c,e=>by cases e
 | [a],c,e=>pe_one (hf a c e)
 | a::b::r,c,e=>by
  unfold cBoolV at e
  obtain ⟨ca,e1,e⟩:=Option.bind_eq_some_iff.mp e
  obtain ⟨cb,e2,e⟩:=Option.map_eq_some_iff.mp e
  subst e
  cases op with
  | And=>exact se_and (hf a ca e1) (s_boolV hf e2)
  | Or=>exact se_or (hf a ca e1) (s_boolV hf e2)
def KeepsT (X:Cx) (t:Expr→Option CT):Prop:=∀ e c,t e=some c→PT X e (tOfT X.K c)
variable {t:Expr→Option CT}
noncomputable def cBoolT (op:BoolOp) (t:Expr→Option CT):List Expr→Option CT
 | []=>none
 | [a]=>t a
 | a::b::r=>(t a).bind fun ca=>(cBoolT op t (b::r)).map fun cb=>match op with
  | .And=>cAndT ca cb
  | .Or=>cOrT ca cb
theorem s_boolT (ht:KeepsT X t) {op:BoolOp}{pos:Pos}:∀ {vs:List Expr}{c:CT},cBoolT op t vs=some c→PW X (.BoolOp op vs pos) (tOfT X.K c)
 | [],c,e=>by cases e
 | [a],c,e=>by
  cases op with
  | And=>exact pw_and1 (ht a c e)
  | Or=>exact pw_or1 (ht a c e)
 | a::b::r,c,e=>by
  unfold cBoolT at e
  obtain ⟨ca,e1,e⟩:=Option.bind_eq_some_iff.mp e
  obtain ⟨cb,e2,e⟩:=Option.map_eq_some_iff.mp e
  subst e
  cases op with
  | And=>exact sw_and (ht a ca e1) (s_boolT ht e2)
  | Or=>exact sw_or (ht a ca e1) (s_boolT ht e2)
noncomputable def isTuple:Expr→Bool
 | .Tuple _ _ _=>true
 | _=>false
noncomputable def isSet:Expr→Bool
 | .Set _ _ _=>true
 | _=>false
theorem folded_ok {iter:Expr}{env:Env} (h:isSet iter=false):∀ x,foldedSetIterable iter env x=pure x:=by
 cases iter <;> first | (intro x; rfl) | cases h
noncomputable def cRangeI (o:Option (List C)) (es:List Expr):Option CI:=o.bind fun cs=>match es with
 | [_]=>some (iRange1 (cArgs cs))
 | [_,_]=>some (iRange2 (cArgs cs))
 | _=>none
noncomputable def cZipI (t:Bool) (o:Option (List C)) (es:List Expr):Option CI:=if t=true then o.bind fun cs=>match es with
  | [_,_]=>some (iZipL (cArgs cs))
  | _=>none
 else none
noncomputable def cEnumI (t:Bool) (o:Option (List C)) (es:List Expr):Option CI:=if t=true then o.bind fun cs=>match es with
  | [_]=>some (iEnumT (cArgs cs))
  | _=>none
 else none
noncomputable def cIter (sc:Sc) (ar:Str→Option Nat) (f:Expr→Option C) (tg iter:Expr):Option CI:=if isSet iter then none else match iter with
 | .Call (.Name x _) es [] _=>if sc.names.lookup x=some .globalImplicit∧ar x=none then
   (if x=("range":Str) then cRangeI (cArgs? f es) es else
    if x=("zip":Str) then cZipI (isTuple tg) (cArgs? f es) es else
    if x=("enumerate":Str) then cEnumI (isTuple tg) (cArgs? f es) es else
    (f iter).map iSeq)
  else (f iter).map iSeq
 | _=>(f iter).map iSeq
theorem s_rangeI (hf:Keeps X f) {tg:Expr}{es:List Expr}{c:CI}{p pos:Pos} (g:Gl X "range") (hm:X.mg "range"=none) (e:cRangeI (cArgs? f es) es=some c):PI X tg (.Call (.Name "range" p) es [] pos) (tOfI X.K c):=by
 obtain ⟨cs,e1,e2⟩:=Option.bind_eq_some_iff.mp e
 clear e
 obtain ⟨h1,h2⟩:=s_args hf e1
 match es,h1,h2,e2 with
 | [a],h1,h2,e2 =>
  cases e2
  exact si_range1 (pi_range1 g hm h1 (by rw [star_cons (h2 a (by simp))]; rfl))
 | [a,b],h1,h2,e2 =>
  cases e2
  exact si_range2 (pi_range2 g hm h1 (by rw [star_cons (h2 a (by simp)),star_cons (h2 b (by simp))]; rfl) (by rw [star_cons (h2 b (by simp))]; rfl))
 | [],h1,h2,e2=>cases e2
 | _::_::_::_,h1,h2,e2=>cases e2
theorem is_tup {tg:Expr} (h:isTuple tg=true):∃ es k pos,tg=.Tuple es k pos:=by
 cases tg <;> first | exact ⟨_,_,_,rfl⟩ | cases h
theorem s_zipI (hf:Keeps X f) {tg:Expr}{es:List Expr}{c:CI}{p pos:Pos} (g:Gl X "zip") (hm:X.mg "zip"=none) (e:cZipI (isTuple tg) (cArgs? f es) es=some c):PI X tg (.Call (.Name "zip" p) es [] pos) (tOfI X.K c):=by
 unfold cZipI at e
 by_cases ht:isTuple tg=true
 ·rw [if_pos ht] at e
  obtain ⟨ts,kt,pt,rfl⟩:=is_tup ht
  obtain ⟨cs,e1,e2⟩:=Option.bind_eq_some_iff.mp e
  clear e ht
  obtain ⟨h1,h2⟩:=s_args hf e1
  match es,h1,h2,e2 with
  | [a,b],h1,h2,e2 =>
   cases e2
   exact si_zip (pi_zipX g hm h1 (by rw [star_cons (h2 a (by simp)),star_cons (h2 b (by simp))]; rfl) (by rw [star_cons (h2 b (by simp))]; rfl))
  | _::_::_::_,h1,h2,e2=>cases e2
  | [],h1,h2,e2=>cases e2
  | [_],h1,h2,e2=>cases e2
 ·rw [if_neg ht] at e; cases e
theorem s_enumI (hf:Keeps X f) {tg:Expr}{es:List Expr}{c:CI}{p pos:Pos} (g:Gl X "enumerate") (hm:X.mg "enumerate"=none) (e:cEnumI (isTuple tg) (cArgs? f es) es=some c):PI X tg (.Call (.Name "enumerate" p) es [] pos) (tOfI X.K c):=by
 unfold cEnumI at e
 by_cases ht:isTuple tg=true
 ·rw [if_pos ht] at e
  obtain ⟨ts,kt,pt,rfl⟩:=is_tup ht
  obtain ⟨cs,e1,e2⟩:=Option.bind_eq_some_iff.mp e
  clear e ht
  obtain ⟨h1,h2⟩:=s_args hf e1
  match es,h1,h2,e2 with
  | [a],h1,h2,e2 =>
   cases e2
   exact si_enum (pi_enumL g hm h1 (by rw [star_cons (h2 a (by simp))]; rfl))
  | [],h1,h2,e2=>cases e2
  | _::_::_,h1,h2,e2=>cases e2
 ·rw [if_neg ht] at e; cases e
theorem s_iter (h:XOk X sc ar cl k) (hf:Keeps X f) {tg iter:Expr}{c:CI} (e:cIter sc ar f tg iter=some c):PI X tg iter (tOfI X.K c)∧isSet iter=false:=by
 unfold cIter at e
 split at e
 ·cases e
 rename_i hset
 refine ⟨?_,by simpa using hset⟩
 have dflt:∀ {c},(f iter).map iSeq=some c→PI X tg iter (tOfI X.K c):=fun e=>by
  obtain ⟨ca,e1,e⟩:=Option.map_eq_some_iff.mp e
  subst e
  exact si_seq (hf _ _ e1)
 split at e
 ·rename_i x p es pos
  split at e
  ·rename_i hx
   have g:=h.gl x hx.1
   split at e
   ·rename_i q; subst q
    exact s_rangeI hf g (h.blt.b _ (by decide +kernel) hx.2) e
   split at e
   ·rename_i q; subst q
    exact s_zipI hf g (h.blt.b _ (by decide +kernel) hx.2) e
   split at e
   ·rename_i q; subst q
    exact s_enumI hf g (h.blt.b _ (by decide +kernel) hx.2) e
   exact dflt e
  ·exact dflt e
 ·exact dflt e
noncomputable def namesOf:List Expr→Option (List Str)
 | []=>some []
 | .Name x _::r=>(namesOf r).map (x::·)
 | _::_=>none
noncomputable def tgtOf:Expr→Option (Tgt × List Str)
 | .Name x _=>some (.one,[x])
 | .Tuple es _ _=>(namesOf es).map fun xs=>(.many xs.length,xs)
 | _=>none
noncomputable def freesOf (ns:List (Str × NameKind)):List Str:=(ns.filter fun y=>y.2 == .free).map (·.1)
noncomputable def slots (N:List Str):List Str→Option (List Nat)
 | []=>some []
 | x::r=>(slotOf N x 0).bind fun j=>(slots N r).map (j::·)
noncomputable def compSc (xs:List Str) (scope:Scope):Sc:=⟨xs++freesOf scope.names,scope.names,none⟩
noncomputable def compOk (sc:Sc) (xs:List Str) (scope:Scope):Bool :=
 decide (scope.kind=.function)&&scope.names.all (fun y=>y.2 != .cell||scope.names.lookup y.1 == some .cell)&&scope.names.all (fun y=>y.2 != .local||scope.names.lookup y.1 == some .local)
 && decide ((xs++freesOf scope.names).Nodup)&&xs.all (fun x=>scope.names.lookup x == some .local||scope.names.lookup x == some .cell)&&decide (1≤xs.length)
 && (freesOf scope.names).all (fun x=>(sc.names.lookup x == some .cell||sc.names.lookup x == some .free)&&scope.names.lookup x == some .free)
noncomputable def cCompr (sc:Sc) (it:Option CI) (fe:Sc→Expr→Option C) (ft:Sc→Expr→Option CT) (tg elt:Expr) (ifs:List Expr) (scope:Scope):Option C :=
 (tgtOf tg).bind fun p=>if compOk sc p.2 scope then (slots sc.N (freesOf scope.names)).bind fun js=>it.bind fun ci=>(fe (compSc p.2 scope) elt).bind fun ce=>match ifs with
  | []=>some (cComp ci p.2.length js p.1 (fun _=>ret true) ce)
  | [q]=>(ft (compSc p.2 scope) q).map fun ct=>cComp ci p.2.length js p.1 ct ce
  | _=>none
 else none
theorem slots_get {N:List Str}:∀ {xs:List Str}{js:List Nat},slots N xs=some js→js.length=xs.length∧∀ (i j:Nat),js[i]?=some j→∃ x,xs[i]?=some x∧N[j]?=some x
 | [],js,e=>by cases e; exact ⟨rfl,fun i j h=>by simp at h⟩
 | x::r,js,e=>by
  unfold slots at e
  obtain ⟨j0,e1,e⟩:=Option.bind_eq_some_iff.mp e
  obtain ⟨js',e2,e⟩:=Option.map_eq_some_iff.mp e
  subst e
  obtain ⟨h1,h2⟩:=slots_get e2
  refine ⟨by simp [h1],fun i j h=>?_⟩
  cases i with
  | zero=>simp at h; subst h; exact ⟨x,rfl,(slotOf_get e1).2⟩
  | succ i =>
   rw [List.getElem?_cons_succ] at h
   obtain ⟨y,g1,g2⟩:=h2 i j h
   exact ⟨y,by rw [List.getElem?_cons_succ]; exact g1,g2⟩
theorem relabel_glob {env:Env}:∀ {names:List (Str × NameKind)}{x:Str}{k:NameKind},k≠.free→names.lookup x=some k →
  (names.map fun (n,k)=>if (k == NameKind.free&&env.scope.kind == .function&&env.kindOf n == some .cell) then (n,NameKind.cell) else (n,k)).lookup x=some k
 | [],_,_,_,h=>by simp at h
 | (n,k')::r,x,k,nf,h=>by
  have ih:=@relabel_glob env r x k nf
  show List.lookup x ((if (k' == NameKind.free&&env.scope.kind == .function&&env.kindOf n == some .cell)=true then (n,NameKind.cell) else (n,k'))::_)=_
  cases hx:x == n with
  | true =>
   simp only [List.lookup_cons,hx] at h
   cases h
   have e:(k' == NameKind.free)=false:=by simpa using nf
   simp [List.lookup_cons,hx,e]
  | false =>
   simp only [List.lookup_cons,hx] at h
   by_cases hc:(k' == NameKind.free&&env.scope.kind == .function&&env.kindOf n == some .cell)=true
   ·rw [if_pos hc]; simp only [List.lookup_cons,hx]; exact ih h
   ·rw [if_neg hc]; simp only [List.lookup_cons,hx]; exact ih h
theorem look_mem {ns:List (Str × NameKind)}{x:Str}{k:NameKind} (h:ns.lookup x=some k):(x,k)∈ns:=mem_of_look h
theorem XOk.comp (h:XOk X sc ar cl k) {xs:List Str}{scope:Scope} (hc:compOk sc xs scope=true) (cl':List (Str × Addr)) (s:Shared) (H:Hp) (C:Addr) (ex:List Addr):XOk (cxComp X scope (xs++freesOf scope.names) cl' s H C ex) (compSc xs scope) ar cl k:=by
 unfold compOk at hc
 simp only [Bool.and_eq_true,decide_eq_true_eq] at hc
 obtain ⟨⟨⟨⟨⟨⟨c1,c2⟩,c3⟩,c4⟩,c5⟩,c6⟩,c7⟩:=hc
 exact {
  calm:=h.calm
  N:=rfl
  nd:=c4
  gl:=fun x hx=>relabel_glob (by decide) hx
  loc:=fun x hx=>relabel_glob (by decide) hx
  cel:=fun x hx=>relabel_glob (by decide) hx
  fre:=fun x hx=>relabel_free hx
  fnn:=fun z=>by cases z
  room:=h.room
  xe:=rfl
  blt:=h.blt
  fns:=h.fns }
theorem namesOf_get:∀ {es:List Expr}{xs:List Str},namesOf es=some xs→es.length=xs.length∧∀ (i:Nat) (e:Expr),es[i]?=some e→∃ x pos,e=.Name x pos∧xs[i]?=some x
 | [],xs,h=>by cases h; exact ⟨rfl,fun i e h=>by simp at h⟩
 | a::r,xs,h=>by
  cases a with
  | Name x pos =>
   unfold namesOf at h
   obtain ⟨ys,e1,e⟩:=Option.map_eq_some_iff.mp h
   subst e
   obtain ⟨h1,h2⟩:=namesOf_get e1
   refine ⟨by simp [h1],fun i e he=>?_⟩
   cases i with
   | zero=>simp at he; subst he; exact ⟨x,pos,rfl,rfl⟩
   | succ i =>
    rw [List.getElem?_cons_succ] at he
    obtain ⟨y,p,g1,g2⟩:=h2 i e he
    exact ⟨y,p,g1,by rw [List.getElem?_cons_succ]; exact g2⟩
  | _=>cases h
theorem assignEach_name {x:Str}{pos:Pos}{es:List Expr}{env:Env}:assignEach (.Name x pos::es) env=(false,assign (.Name x pos) env)::assignEach es env:=rfl
theorem pgs_names:∀ {es:List Expr}{s:Nat},(∀ (i:Nat) (e:Expr),es[i]?=some e→∃ x pos,e=.Name x pos∧X.N[s+i]?=some x∧Loc X.env.scope x∧(X.fn x=true∨X.env.scope.names.lookup x=some .local))→X.N.Nodup→PGs X es (gNames s es.length)
 | [],s,h,nd=>pgs_nil
 | a::r,s,h,nd=>by
  obtain ⟨x,pos,rfl,g1,g2,g3⟩:=h 0 a rfl
  refine pgs_cons (pg_name nd (by simpa using g1) g2 g3) (pgs_names (s:=s+1) (fun i e he=>?_) nd) rfl
  obtain ⟨y,p,q1,q2,q3⟩:=h (i+1) e (by rw [List.getElem?_cons_succ]; exact he)
  exact ⟨y,p,q1,by rw [show s+1+i=s+(i+1) by omega]; exact q2,q3⟩
theorem assignEach_names {env:Env}:∀ {es:List Expr}{xs:List Str},namesOf es=some xs→(assignEach es env).length=xs.length∧(assignEach es env).findIdx? (·.1)=none
 | [],xs,h=>by cases h; exact ⟨rfl,rfl⟩
 | a::r,xs,h=>by
  cases a with
  | Name x pos =>
   unfold namesOf at h
   obtain ⟨ys,e1,e⟩:=Option.map_eq_some_iff.mp h
   subst e
   obtain ⟨h1,h2⟩:=assignEach_names (env:=env) e1
   rw [assignEach_name]
   exact ⟨by simp [h1],by rw [List.findIdx?_cons]; simp [h2]⟩
  | _=>cases h
theorem tgt_len {tg:Expr}{t:Tgt}{xs:List Str} (e:tgtOf tg=some (t,xs)):tgtK t=xs.length:=by
 cases tg with
 | Name x pos=>cases e; rfl
 | Tuple es n pos =>
  unfold tgtOf at e
  obtain ⟨ys,e1,e⟩:=Option.map_eq_some_iff.mp e
  cases e
  rfl
 | _=>cases e
theorem tgt_kind {X':Cx}{sc':Sc} (h:XOk X' sc' ar cl k) {x:Str} (g:sc'.names.lookup x=some .local∨sc'.names.lookup x=some .cell∧X'.fn x=true):Loc X'.env.scope x∧(X'.fn x=true∨X'.env.scope.names.lookup x=some .local):=by
 rcases g with g | ⟨g,f⟩
 ·exact ⟨.inl (h.loc x g),.inr (h.loc x g)⟩
 ·exact ⟨.inr (h.cel x g),.inl f⟩
theorem s_tgt {X':Cx}{sc':Sc} (h:XOk X' sc' ar cl k) {tg:Expr}{t:Tgt}{xs:List Str} (e:tgtOf tg=some (t,xs)) (hN:∀ (i:Nat) (x:Str),xs[i]?=some x→sc'.N[i]?=some x∧(sc'.names.lookup x=some .local∨sc'.names.lookup x=some .cell∧X'.fn x=true)):PG X' tg (tOfT' X'.K t)∧tgtK t=xs.length:=by
 have nd:X'.N.Nodup:=by rw [h.N]; exact h.nd
 cases tg with
 | Name x pos =>
  cases e
  obtain ⟨g1,g2⟩:=hN 0 x rfl
  obtain ⟨l1,l2⟩:=tgt_kind h g2
  exact ⟨pg_name nd (by rw [h.N]; exact g1) l1 l2,rfl⟩
 | Tuple es n pos =>
  unfold tgtOf at e
  obtain ⟨ys,e1,e⟩:=Option.map_eq_some_iff.mp e
  cases e
  obtain ⟨a1,a2⟩:=assignEach_names (env:=X'.env) e1
  obtain ⟨n1,n2⟩:=namesOf_get e1
  refine ⟨?_,rfl⟩
  have:=pgs_names (X:=X') (es:=es) (s:=0) (fun i e he=>by
   obtain ⟨x,pos,rfl,g⟩:=n2 i e he
   obtain ⟨g1,g2⟩:=hN i x g
   obtain ⟨l1,l2⟩:=tgt_kind h g2
   exact ⟨x,pos,rfl,by rw [h.N,Nat.zero_add]; exact g1,l1,l2⟩) nd
  rw [n1] at this
  exact pg_tup h.calm this a1 a2
 | _=>cases e
theorem comp_h (h:XOk X sc ar cl k) {xs:List Str}{scope:Scope}{js:List Nat} (hc:compOk sc xs scope=true) (e1:slots sc.N (freesOf scope.names)=some js):CompH X scope (xs++freesOf scope.names) xs.length js:=by
 obtain ⟨l1,l2⟩:=slots_get e1
 unfold compOk at hc
 simp only [Bool.and_eq_true,decide_eq_true_eq] at hc
 obtain ⟨⟨⟨⟨⟨⟨c1,c2⟩,c3⟩,c4⟩,c5⟩,c6⟩,c7⟩:=hc
 have hf7:∀ x,(x,NameKind.free)∈scope.names→(sc.names.lookup x=some .cell∨sc.names.lookup x=some .free)∧scope.names.lookup x=some .free:=fun x hx=>by
  have hm:x∈freesOf scope.names:=by
   unfold freesOf
   rw [List.mem_map]
   exact ⟨(x,.free),by rw [List.mem_filter]; exact ⟨hx,by simp⟩,rfl⟩
  have:=List.all_eq_true.mp c7 x hm
  simpa using this
 refine ⟨h.calm,c1,fun x hx=>?_,fun x hx=>?_,fun x hx hxl=>?_,?_,fun i j hj=>?_⟩
 ·have:=List.all_eq_true.mp c2 _ hx
  simpa using this
 ·rcases (hf7 x hx).1 with q | q
  ·exact .inl (h.cel x q)
  ·exact h.fre x q
 ·have:=List.all_eq_true.mp c3 x hx
  simp only [Bool.or_eq_true,bne_iff_ne,ne_eq,beq_iff_eq] at this
  rcases this with z | z
  ·exact absurd hxl z
  ·exact z
 ·rw [List.length_append,l1]
 ·obtain ⟨x,g1,g2⟩:=l2 i j hj
  have hm:(x,NameKind.free)∈scope.names:=by
   have:=List.mem_of_getElem? g1
   unfold freesOf at this
   rw [List.mem_map] at this
   obtain ⟨⟨y,ky⟩,m1,m2⟩:=this
   rw [List.mem_filter] at m1
   dsimp only at m2
   subst m2
   have:ky=.free:=by simpa using m1.2
   subst this
   exact m1.1
  obtain ⟨v1,v2⟩:=hf7 x hm
  refine ⟨x,?_,by rw [h.N]; exact g2,v2,h.vis (.inr v1)⟩
  rw [List.getElem?_append_right (by omega),Nat.add_sub_cancel_left]; exact g1
theorem comp_t (h:XOk X sc ar cl k) {xs:List Str}{scope:Scope}{tg:Expr}{t:Tgt} (hc:compOk sc xs scope=true) (e0:tgtOf tg=some (t,xs)) (cl':List (Str × Addr)) (s:Shared) (H:Hp) (C:Addr) (ex:List Addr):PG (cxComp X scope (xs++freesOf scope.names) cl' s H C ex) tg (tOfT' X.K t) :=
 (s_tgt (h.comp hc cl' s H C ex) e0 fun i x hx=>by
  unfold compOk at hc
  simp only [Bool.and_eq_true,decide_eq_true_eq] at hc
  have c5:=hc.1.1.2
  have hl:=(List.getElem?_eq_some_iff.mp hx).1
  refine ⟨?_,?_⟩
  ·show (xs++freesOf scope.names)[i]?=some x
   rw [List.getElem?_append_left hl]; exact hx
  ·have:=List.all_eq_true.mp c5 x (List.mem_of_getElem? hx)
   rw [Bool.or_eq_true,beq_iff_eq,beq_iff_eq] at this
   rcases this with z | z
   ·exact .inl z
   ·exact .inr ⟨z,decide_eq_true (look_mem z)⟩).1
inductive ComprE (X:Cx) (sc:Sc) (tg iter elt:Expr) (ifs:List Expr) (scope:Scope) (c:C):Prop
 | mk (t:Tgt) (xs:List Str) (js:List Nat) (ci:CI) (ct:CT) (ce:C) (B:CompH X scope (xs++freesOf scope.names) xs.length js) (hi:PI X tg iter (tOfI X.K ci)) (hs:isSet iter=false)
  (hg:∀ cl' s H C ex,PG (cxComp X scope (xs++freesOf scope.names) cl' s H C ex) tg (tOfT' X.K t)) (hT:∀ cl' s H C ex,PTs (cxComp X scope (xs++freesOf scope.names) cl' s H C ex) ifs (tOfT X.K ct))
  (hE:∀ cl' s H C ex,PE (cxComp X scope (xs++freesOf scope.names) cl' s H C ex) elt (tOf X.K ce)) (ht:tgtK t≤xs.length) (h1:1≤xs.length) (hc:c=cComp ci xs.length js t ct ce)
theorem compr_e (h:XOk X sc ar cl k) {it:Option CI}{fe:Sc→Expr→Option C}{ft:Sc→Expr→Option CT}{tg iter elt:Expr}{ifs:List Expr}{scope:Scope}{c:C} (e:cCompr sc it fe ft tg elt ifs scope=some c)
  (hi:∀ ci,it=some ci→PI X tg iter (tOfI X.K ci)∧isSet iter=false) (hfe:∀ X' sc',XOk X' sc' ar cl k→Keeps X' (fe sc')) (hft:∀ X' sc',XOk X' sc' ar cl k→KeepsT X' (ft sc')):ComprE X sc tg iter elt ifs scope c:=by
 unfold cCompr at e
 obtain ⟨⟨t,xs⟩,e0,e⟩:=Option.bind_eq_some_iff.mp e
 dsimp only at e
 by_cases hc:compOk sc xs scope=true
 ·rw [if_pos hc] at e
  obtain ⟨js,e1,u1⟩:=Option.bind_eq_some_iff.mp e
  obtain ⟨ci,e2,u2⟩:=Option.bind_eq_some_iff.mp u1
  obtain ⟨ce,e3,u3⟩:=Option.bind_eq_some_iff.mp u2
  clear e u1 u2
  obtain ⟨i1,i2⟩:=hi ci e2
  have c6:1≤xs.length:=by
   have hc':=hc
   unfold compOk at hc'
   simp only [Bool.and_eq_true,decide_eq_true_eq] at hc'
   exact hc'.1.2
  have hE:=fun cl' s H C ex=>hfe _ _ (h.comp hc cl' s H C ex) elt ce e3
  have ht:tgtK t≤xs.length:=by rw [tgt_len e0]; exact Nat.le_refl _
  cases ifs with
  | nil =>
   cases u3
   exact ⟨t,xs,js,ci,_,ce,comp_h h hc e1,i1,i2,comp_t h hc e0,fun cl' s H C ex pins s' σ H' Q I ⟨μ,ρ,S,d,S',sr,re,e,y⟩=>pts_nil pins s' σ H' Q I (by obtain ⟨rfl,rfl⟩:=ret_ok e; exact y H' μ sr (Step.refl _ _ _)),hE,ht,c6,rfl⟩
  | cons q r =>
   cases r with
   | nil =>
    obtain ⟨ct,e4,u4⟩:=Option.map_eq_some_iff.mp u3
    exact ⟨t,xs,js,ci,ct,ce,comp_h h hc e1,i1,i2,comp_t h hc e0,fun cl' s H C ex=>pts_one (hft _ _ (h.comp hc cl' s H C ex) q ct e4),hE,ht,c6,u4.symm⟩
   | cons _ _=>cases u3
 ·rw [if_neg hc] at e; cases e
theorem s_compr (h:XOk X sc ar cl k) {it:Option CI}{fe:Sc→Expr→Option C}{ft:Sc→Expr→Option CT}{tg iter elt:Expr}{ifs:List Expr}{scope:Scope}{pos:Pos}{c:C} (e:cCompr sc it fe ft tg elt ifs scope=some c)
  (hi:∀ ci,it=some ci→PI X tg iter (tOfI X.K ci)∧isSet iter=false) (hfe:∀ X' sc',XOk X' sc' ar cl k→Keeps X' (fe sc')) (hft:∀ X' sc',XOk X' sc' ar cl k→KeepsT X' (ft sc')):PE X (.ListComp elt [⟨tg,iter,ifs,0⟩] scope pos) (tOf X.K c):=by
 obtain ⟨t,xs,js,ci,ct,ce,B,i1,i2,hg,hT,hE,ht,h1,rfl⟩:=compr_e h e hi hfe hft
 exact (pe_comp B i1 hg hT hE (folded_ok i2)).weak fun σ H Q q=>of_comp ht h1 q
theorem s_comprU (h:XOk X sc ar cl k) {it:Option CI}{fe:Sc→Expr→Option C}{ft:Sc→Expr→Option CT}{tg iter elt:Expr}{ifs:List Expr}{scope:Scope}{pos pos' spos:Pos}{y0:Str}{go:TG} (hgo:PG X (.Name y0 pos') go) (hsw:swapsWith (.ListComp elt [⟨tg,iter,ifs,0⟩] scope pos) (some (.Name y0 pos')) spos.line X.env=pure true) {c:C} (e:cCompr sc it fe ft tg elt ifs scope=some c)
  (hi:∀ ci,it=some ci→PI X tg iter (tOfI X.K ci)∧isSet iter=false) (hfe:∀ X' sc',XOk X' sc' ar cl k→Keeps X' (fe sc')) (hft:∀ X' sc',XOk X' sc' ar cl k→KeepsT X' (ft sc')):PS X (.Assign [.Name y0 pos'] (.ListComp elt [⟨tg,iter,ifs,0⟩] scope pos) spos) (tAsg (tOf X.K c) go):=by
 obtain ⟨t,xs,js,ci,ct,ce,B,i1,i2,hg,hT,hE,ht,h1,rfl⟩:=compr_e h e hi hfe hft
 exact (ps_compSet hgo hsw B i1 hg hT hE (folded_ok i2)).weak fun D σ H q=>of_comp ht h1 q
end
open PySem PySem.Spec PyProof.Rows
section
variable (ar:Str→Option Nat) (cl:Str→List D→M D)
mutual
noncomputable def cE:Nat→Sc→Expr→Option C
 | 0,_,_=>none
 | n+1,sc,e=>match e with
  | .Constant v _ _=>cConst v
  | .Name x _=>cName sc ar x
  | .BinOp a op b _=>(opBin op).bind fun o=>(cE n sc a).bind fun ca=>(cE n sc b).map fun cb=>cBin o ca cb
  | .UnaryOp op a _=>match op with
   | .USub=>(cE n sc a).map fun ca=>cUn oNeg ca
   | .Not=>(cE n sc a).map fun ca=>cNotV ca
   | _=>none
  | .BoolOp op vs _=>cBoolV op (cE n sc) vs
  | .IfExp t a b _=>(cT n sc t).bind fun ct=>(cE n sc a).bind fun ca=>(cE n sc b).map fun cb=>cIf ct ca cb
  | .Compare a ops bs _=>cCompare (cE n sc) a ops bs
  | .Tuple es _ _=>(cArgs? (cE n sc) es).bind fun cs=>if cs.length≤1000 then some (cTup (cArgs cs)) else none
  | .List es _=>(cArgs? (cE n sc) es).bind fun cs=>if cs.length≤1000 then some (cLst (cArgs cs)) else none
  | .Subscript a b _=>cSub (cE n sc) a b
  | .FormattedValue a v sp _=>if v=-1∧sp=none then (cE n sc a).map cFmt else none
  | .JoinedStr es _=>cJoined (cE n sc) es
  | .Dict ks vs _=>cDict (cE n sc) ks vs
  | .Call fn es kw cpos=>match kw with
   | []=>match fn with
    | .Name x _=>cCallN sc ar cl (cE n sc) x es
    | .Attribute o m apos=>cMethod (cE n sc) o m es apos cpos
    | _=>none
   | _::_=>none
  | .ListComp elt gens scope _=>match gens with
   | [⟨tg,iter,ifs,ia⟩]=>if ia=0 then cCompr sc (cIter sc ar (cE n sc) tg iter) (cE n) (cT n) tg elt ifs scope else none
   | _=>none
  | _=>none
noncomputable def cT:Nat→Sc→Expr→Option CT
 | 0,_,_=>none
 | n+1,sc,e=>match e with
  | .UnaryOp op a _=>match op with
   | .Not=>(cT n sc a).map fun ca=>cNotT ca
   | _=>(cE n sc e).map cTru
  | .BoolOp op vs _=>cBoolT op (cT n sc) vs
  | .IfExp _ _ _ _=>none
  | .Compare a ops bs _=>tCompare (cE n sc) a ops bs
  | _=>(cE n sc e).map cTru
end
end
section
variable {X:Cx}{sc:Sc}{ar:Str→Option Nat}{cl:Str→List D→M D}{k:Nat}
theorem s_all:∀ n:Nat,(∀ X sc,XOk X sc ar cl k→Keeps X (cE ar cl n sc))∧(∀ X sc,XOk X sc ar cl k→KeepsT X (cT ar cl n sc))
 | 0=>⟨fun X sc h e c q=>(by cases q),fun X sc h e c q=>(by cases q)⟩
 | n+1=>by
  obtain ⟨ihE,ihT⟩:=s_all n
  refine ⟨fun X sc h e c q=>?_,fun X sc h e c q=>?_⟩
  ·have hf:=ihE X sc h
   have ht:=ihT X sc h
   cases e with
   | Constant v j pos=>exact s_const q
   | Name x pos=>exact s_name h q
   | BinOp a op b pos =>
    obtain ⟨o,e0,q1⟩:=Option.bind_eq_some_iff.mp q
    obtain ⟨ca,e1,q2⟩:=Option.bind_eq_some_iff.mp q1
    obtain ⟨cb,e2,q3⟩:=Option.map_eq_some_iff.mp q2
    subst q3
    exact se_bin (s_op e0) (hf _ _ e1) (hf _ _ e2)
   | UnaryOp op a pos =>
    cases op with
    | USub =>
     obtain ⟨ca,e1,q2⟩:=Option.map_eq_some_iff.mp q
     subst q2
     exact se_un us_neg (hf _ _ e1)
    | Not =>
     obtain ⟨ca,e1,q2⟩:=Option.map_eq_some_iff.mp q
     subst q2
     exact se_not (hf _ _ e1)
    | _=>cases q
   | BoolOp op vs pos=>exact s_boolV hf q
   | IfExp t a b pos =>
    obtain ⟨ct,e0,q1⟩:=Option.bind_eq_some_iff.mp q
    obtain ⟨ca,e1,q2⟩:=Option.bind_eq_some_iff.mp q1
    obtain ⟨cb,e2,q3⟩:=Option.map_eq_some_iff.mp q2
    subst q3
    exact se_ifExp (ht _ _ e0) (hf _ _ e1) (hf _ _ e2)
   | Compare a ops bs pos=>exact s_compare h.room hf q
   | Tuple es j pos =>
    obtain ⟨cs,e1,q1⟩:=Option.bind_eq_some_iff.mp q
    split at q1
    ·rename_i hl; cases q1; exact se_tup (s_args hf e1).1 hl
    ·cases q1
   | List es pos =>
    obtain ⟨cs,e1,q1⟩:=Option.bind_eq_some_iff.mp q
    split at q1
    ·rename_i hl; cases q1; exact se_lst (s_args hf e1).1 hl
    ·cases q1
   | Subscript a b pos=>exact s_sub h.room hf q
   | FormattedValue a v sp pos =>
    change (if v=-1∧sp=none then (cE ar cl n sc a).map cFmt else none)=some c at q
    split at q
    ·rename_i hc
     obtain ⟨rfl,rfl⟩:=hc
     obtain ⟨ca,e1,q2⟩:=Option.map_eq_some_iff.mp q
     subst q2
     exact se_fmt (hf _ _ e1)
    ·cases q
   | JoinedStr es pos=>exact s_joined hf q
   | Dict ks vs pos=>exact s_dict hf q
   | Call fn es kw cpos =>
    cases kw with
    | cons _ _=>cases q
    | nil =>
     cases fn with
     | Name x p=>exact s_callN h hf q
     | Attribute o m apos=>exact s_method h.room hf q
     | _=>cases q
   | ListComp elt gens scope pos =>
    cases gens with
    | nil=>cases q
    | cons g gs =>
     obtain ⟨tg,iter,ifs,ia⟩:=g
     cases gs with
     | cons _ _=>cases q
     | nil =>
      change (if ia=0 then cCompr sc (cIter sc ar (cE ar cl n sc) tg iter) (cE ar cl n) (cT ar cl n) tg elt ifs scope else none)=some c at q
      split at q
      ·rename_i hz
       subst hz
       exact s_compr h q (fun ci e=>s_iter h hf e) (fun X' sc' h'=>ihE X' sc' h') (fun X' sc' h'=>ihT X' sc' h')
      ·cases q
   | _=>cases q
  ·have hf:=ihE X sc h
   have ht:=ihT X sc h
   have dflt:∀ {c:CT},(cE ar cl n sc e).map cTru=some c→(∀ whole,isTrue e X.env whole=(do let v ← whole; standAt e.pos; holding [v] (truthy v)))→PT X e (tOfT X.K c):=fun {c} q he=>by
    obtain ⟨ca,e1,q2⟩:=Option.map_eq_some_iff.mp q
    subst q2
    exact st_tru (hf _ _ e1) he
   cases e with
   | UnaryOp op a pos =>
    cases op with
    | Not =>
     obtain ⟨ca,e1,q2⟩:=Option.map_eq_some_iff.mp q
     subst q2
     exact st_not (ht _ _ e1)
    | USub=>exact dflt q fun _=>rfl
    | UAdd=>exact dflt q fun _=>rfl
    | Invert=>exact dflt q fun _=>rfl
   | BoolOp op vs pos=>exact (s_boolT ht q).pt
   | IfExp t a b pos=>cases q
   | Compare a ops bs pos=>exact s_tcompare h.room hf q
   | _=>exact dflt q fun _=>rfl
section
variable (ar:Str→Option Nat) (cl:Str→List D→M D)
noncomputable def cTg (sc:Sc) (x:Str):Option G:=(slotOf sc.N x 0).bind fun i=>if sc.names.lookup x=some .local∨(sc.fn.isSome=true∧sc.names.lookup x=some .cell) then some (gN i) else none
mutual
noncomputable def cG:Nat→Sc→Expr→Option G
 | 0,_,_=>none
 | n+1,sc,e=>match e with
  | .Name x _=>cTg sc x
  | .Subscript a b _=>match b with
   | _=>if isSlice b then none else (cE ar cl n sc a).bind fun ca=>(cE ar cl n sc b).map fun cb=>gS ca cb
  | .Tuple es _ _=>(cGs n sc es).map fun gs=>gT gs
  | _=>none
noncomputable def cGs:Nat→Sc→List Expr→Option (List G)
 | 0,_,_=>none
 | n+1,sc,es=>match es with
  | []=>some []
  | e::r=>if notStar e then (cG n sc e).bind fun g=>(cGs n sc r).map fun gs=>g::gs else none
end
end
theorem XOk.nd' (h:XOk X sc ar cl k):X.N.Nodup:=by rw [h.N]; exact h.nd
theorem s_tg (h:XOk X sc ar cl k) {x:Str}{g:G} (e:cTg sc x=some g):∃ i,g=gN i∧X.N[i]?=some x∧Loc X.env.scope x∧(X.fn x=true∨X.env.scope.names.lookup x=some .local):=by
 unfold cTg at e
 obtain ⟨i,e1,e2⟩:=Option.bind_eq_some_iff.mp e
 split at e2
 ·rename_i hc
  cases e2
  refine ⟨i,rfl,by rw [h.N]; exact (slotOf_get e1).2,?_⟩
  rcases hc with q | ⟨q1,q2⟩
  ·exact ⟨.inl (h.loc x q),.inr (h.loc x q)⟩
  ·exact ⟨.inr (h.cel x q2),.inl (h.fnn q1 x)⟩
 ·cases e2
theorem assign_sub {a b:Expr}{pos:Pos}{env:Env} (h:isSlice b=false):∀ v,assign (.Subscript a b pos) env v=(do
   let ov ← holding [v] (eval a env)
   let iv ← holding [v,ov] (eval b env)
   standAt pos
   holding [v,ov,iv] (setItem ov iv v)
   release [v,ov,iv] []):=by
 cases b <;> first | (intro v; rfl) | cases h
theorem assignEach_cons {e:Expr}{es:List Expr}{env:Env} (h:notStar e=true):assignEach (e::es) env=(false,assign e env)::assignEach es env:=by
 cases e <;> first | rfl | cases h
theorem s_G:∀ n:Nat,(∀ X sc,XOk X sc ar cl k→∀ e g,cG ar cl n sc e=some g→PG X e (tOfG X.K g))∧(∀ X sc,XOk X sc ar cl k→∀ es gs,cGs ar cl n sc es=some gs→PGs X es (tOfGs X.K gs)∧(assignEach es X.env).length=gs.length∧(assignEach es X.env).findIdx? (·.1)=none)
 | 0=>⟨fun X sc h e c q=>(by cases q),fun X sc h e c q=>(by cases q)⟩
 | n+1=>by
  obtain ⟨ih,ihs⟩:=s_G n
  refine ⟨fun X sc h e g q=>?_,fun X sc h es gs q=>?_⟩
  ·cases e with
   | Name x pos =>
    obtain ⟨i,rfl,h1,h2,h3⟩:=s_tg h q
    exact sg_name (pg_name h.nd' h1 h2 h3)
   | Subscript a b pos =>
    change (if isSlice b then none else (cE ar cl n sc a).bind fun ca=>(cE ar cl n sc b).map fun cb=>gS ca cb)=_ at q
    split at q
    ·cases q
    ·rename_i hs
     obtain ⟨ca,e1,q1⟩:=Option.bind_eq_some_iff.mp q
     obtain ⟨cb,e2,q2⟩:=Option.map_eq_some_iff.mp q1
     subst q2
     exact sg_sub (hu_of h.room) ((s_all n).1 X sc h _ _ e1) ((s_all n).1 X sc h _ _ e2) (assign_sub (by simpa using hs))
   | Tuple es j pos =>
    obtain ⟨gs,e1,q1⟩:=Option.map_eq_some_iff.mp q
    subst q1
    obtain ⟨h1,h2,h3⟩:=ihs X sc h es gs e1
    exact sg_tup h.calm h1 h2 h3
   | _=>cases q
  ·cases es with
   | nil=>cases q; exact ⟨sgs_nil,rfl,rfl⟩
   | cons e r =>
    change (if notStar e=true then (cG ar cl n sc e).bind fun g=>(cGs ar cl n sc r).map fun gs=>g::gs else none)=_ at q
    split at q
    ·rename_i hs
     obtain ⟨g,e1,q1⟩:=Option.bind_eq_some_iff.mp q
     obtain ⟨gs',e2,q2⟩:=Option.map_eq_some_iff.mp q1
     subst q2
     obtain ⟨h1,h2,h3⟩:=ihs X sc h r gs' e2
     have ha:=assignEach_cons (es:=r) (env:=X.env) hs
     refine ⟨sgs_cons (ih X sc h e g e1) h1 (by rw [ha]; rfl),by rw [ha]; simp [h2],by rw [ha,List.findIdx?_cons]; simp [h3]⟩
    ·cases q
noncomputable def isComp:Expr→Bool
 | .ListComp _ _ _ _=>true
 | .SetComp _ _ _ _=>true
 | .DictComp _ _ _ _ _=>true
 | _=>false
theorem swaps_no {e:Expr}{t:Option Expr}{n:Nat}{env:Env} (h:isComp e=false):swapsWith e t n env=pure false:=by
 cases e <;> first | rfl | cases h
noncomputable def compBad:Expr→Expr→Bool
 | .Name _ _,.ListComp _ _ _ _=>false
 | .Tuple _ _ _,.ListComp _ _ _ _=>false
 | _,e=>isComp e
theorem s_compSet (h:XOk X sc ar cl k):∀ {n:Nat}{elt:Expr}{gens:List Comprehension}{scope:Scope}{pos pos' spos:Pos}{x:Str}{c:C}{i:Nat} (q:cE ar cl n sc (.ListComp elt gens scope pos)=some c) (hgo:PG X (.Name x pos') (gName i))
  (hsw:swapsWith (.ListComp elt gens scope pos) (some (.Name x pos')) spos.line X.env=pure true),PS X (.Assign [.Name x pos'] (.ListComp elt gens scope pos) spos) (tAsg (tOf X.K c) (gName i))
 | 0,_,_,_,_,_,_,_,_,_,q,_,_=>by cases q
 | n+1,elt,gens,scope,pos,pos',spos,x,c,i,q,hgo,hsw=>by
  obtain ⟨ihE,ihT⟩:=s_all (ar:=ar) (cl:=cl) (k:=k) n
  cases gens with
  | nil=>cases q
  | cons g gs =>
   obtain ⟨tg,iter,ifs,ia⟩:=g
   cases gs with
   | cons _ _=>cases q
   | nil =>
    change (if ia=0 then cCompr sc (cIter sc ar (cE ar cl n sc) tg iter) (cE ar cl n) (cT ar cl n) tg elt ifs scope else none)=some c at q
    split at q
    ·rename_i hz
     subst hz
     exact s_comprU h hgo hsw q (fun ci e=>s_iter h (ihE X sc h) e) (fun X' sc' h'=>ihE X' sc' h') (fun X' sc' h'=>ihT X' sc' h')
    ·cases q
theorem swaps_comp {elt:Expr}{gens:List Comprehension}{scope:Scope}{pos pos':Pos}{x:Str}{line:Nat}{env:Env}:∃ b:Bool,swapsWith (.ListComp elt gens scope pos) (some (.Name x pos')) line env=pure b:=⟨_,rfl⟩
inductive CB (tg e:Expr):Prop
 | no (h:∀ n env,swapsWith e (some tg) n env=pure false)
 | yes (x:Str) (pos':Pos) (elt:Expr) (gens:List Comprehension) (scope:Scope) (pos:Pos) (h1:tg=.Name x pos') (h2:e=.ListComp elt gens scope pos)
theorem CB.of {tg e:Expr} (h:isComp e=false):CB tg e:=.no fun _ _=>swaps_no h
theorem compBad_or {tg e:Expr} (h:compBad tg e=false):CB tg e:=by
 cases tg with
 | Name x pos' =>
  cases e with
  | ListComp elt gens scope pos=>exact .yes x pos' elt gens scope pos rfl rfl
  | _=>exact .of h
 | Tuple es k pos =>
  cases e with
  | ListComp elt gens scope pos=>exact .no fun _ _=>rfl
  | _=>exact .of h
 | _=>exact .of h
noncomputable def isLst:Expr→Bool
 | .List _ _=>true
 | _=>false
theorem swapped_no {tg e:Expr}{env:Env} (h:(isTuple tg&&isTuple e)=false) (hl:isLst tg=false):swappedStores [tg] e env=pure none:=by
 cases tg with
 | Tuple es n pos=>cases e <;> first | rfl | cases h
 | List es pos=>cases hl
 | _=>rfl
noncomputable def tupCell (sc:Sc):Expr→Bool
 | .Tuple [.Name x _,.Name y _] _ _=>sc.names.lookup x == some .cell||sc.names.lookup y == some .cell
 | _=>false
theorem tupCell_inv {tg:Expr} (h:tupCell sc tg=true):∃ x px y py k pos,tg=.Tuple [.Name x px,.Name y py] k pos∧(sc.names.lookup x=some .cell∨sc.names.lookup y=some .cell):=by
 unfold tupCell at h
 split at h
 ·rename_i x px y py k pos
  simp only [Bool.or_eq_true,beq_iff_eq] at h
  exact ⟨x,px,y,py,k,pos,rfl,h⟩
 ·cases h
theorem swapped_cell {x y:Str}{px py pos pos2:Pos}{k k2:Nat}{vs:List Expr}{env:Env} (h:env.scope.names.lookup x=some .cell∨env.scope.names.lookup y=some .cell):swappedStores [.Tuple [.Name x px,.Name y py] k pos] (.Tuple vs k2 pos2) env=pure none:=by
 have hn:(([Expr.Name x px,Expr.Name y py].filterMap fun e=>match e with
  | .Name id p=>if (env.kindOf id == some NameKind.local&&p.line == (([Expr.Name x px,Expr.Name y py].head?.map (·.pos.line)).getD 0))=true then some id else none
  | _=>none).length != 2)=true:=by
  have kx:env.kindOf x=env.scope.names.lookup x:=rfl
  have ky:env.kindOf y=env.scope.names.lookup y:=rfl
  have hc:(some NameKind.cell == some NameKind.local)=false:=by decide
  rcases h with h | h
  ·simp only [List.filterMap_cons,List.filterMap_nil,kx,h,hc,Bool.false_and,Bool.false_eq_true,if_false]
   split <;> rfl
  ·simp only [List.filterMap_cons,List.filterMap_nil,ky,h,hc,Bool.false_and,Bool.false_eq_true,if_false]
   split <;> rfl
 unfold swappedStores
 simp only [pure_bind]
 split
 ·rfl
 ·split
  ·rfl
  ·rw [if_pos]
   show (_||_)=true
   rw [Bool.or_eq_true]
   exact .inl hn
theorem swapped_no2 (h:XOk X sc ar cl k) {tg e:Expr} (c2:(isTuple tg&&isTuple e&&!tupCell sc tg)=false) (c3:isLst tg=false):swappedStores [tg] e X.env=pure none:=by
 cases hc:tupCell sc tg with
 | false =>
  rw [hc] at c2
  exact swapped_no (by simpa using c2) c3
 | true =>
  obtain ⟨x,px,y,py,kk,pos,rfl,hxy⟩:=tupCell_inv hc
  cases he:isTuple e with
  | false=>exact swapped_no (by rw [he]; rfl) c3
  | true =>
   obtain ⟨vs,k2,pt2,rfl⟩:=is_tup he
   exact swapped_cell (hxy.imp (h.cel x) (h.cel y))
noncomputable def parIn (sc:Sc) (t v:Expr × Expr) (n:Str × Str):Option (Nat × Nat × Expr × Expr) :=
 if n.1≠n.2∧sc.names.lookup n.1=some .local∧sc.names.lookup n.2=some .local∧t.1.pos.line=t.2.pos.line∧notStar v.1=true∧notStar v.2=true∧([v.1,v.2].all (foldedForSure 8))=false∧([v.1,v.2].all (constantsAlone 8))=false then
  (slotOf sc.N n.1 0).bind fun i=>(slotOf sc.N n.2 0).map fun j=>(i,j,v.1,v.2)
 else none
noncomputable def wfuel:Nat:=100000
section
variable (ar:Str→Option Nat) (cl:Str→List D→M D)
mutual
noncomputable def cSt:Nat→Sc→Stmt→Option CS
 | 0,_,_=>none
 | n+1,sc,s=>match s with
  | .Return v _=>match v with
   | none=>some sRetN
   | some e=>(cE ar cl n sc e).map fun c=>sRet c
  | .Expr e _=>if isComp e then none else (cE ar cl n sc e).map fun c=>sExpr c
  | .Assign tgs e _=>match tgs with
   | [tg] =>
    if compBad tg e||(isTuple tg&&isTuple e&&!tupCell sc tg)||isLst tg||!notStar tg then none else (cE ar cl n sc e).bind fun c=>(cG ar cl n sc tg).map fun g=>sAsg c g
   | _=>none
  | .If t a b _=>(cT ar cl n sc t).bind fun ct=>(cSts n sc a).bind fun ca=>(cSts n sc b).map fun cb=>sIf ct ca cb
  | .For tg it body els _=>match els with
   | []=>(cIter sc ar (cE ar cl n sc) tg it).bind fun ci=>(cG ar cl n sc tg).bind fun g=>(cSts n sc body).map fun cb=>sFor ci g cb
   | _::_=>none
  | .While t body els _=>match els with
   | []=>(cT ar cl n sc t).bind fun ct=>(cSts n sc body).map fun cb=>whileS wfuel ct cb
   | _::_=>none
  | .Pass _=>some sPass
  | .Break _=>some sBrk
  | .Continue _=>some sCnt
  | .Raise _ _ _=>some sBad
  | _=>none
noncomputable def cSts:Nat→Sc→List Stmt→Option CS
 | 0,_,_=>none
 | n+1,sc,ss=>match ss with
  | []=>some sPass
  | s::r=>(cSt n sc s).bind fun c=>(cSts n sc r).map fun d=>sSeq c d
end
end
inductive ParE (sc:Sc) (tg e:Expr) (r:Nat × Nat × Expr × Expr):Prop
 | mk (x y:Str) (px py pt pt2:Pos) (kt k2:Nat) (v1 v2:Expr) (h1:tg=.Tuple [.Name x px,.Name y py] kt pt) (h2:e=.Tuple [v1,v2] k2 pt2) (hp:parIn sc (.Name x px,.Name y py) (v1,v2) (x,y)=some r)
theorem pass_no (h:XOk X sc ar cl k):PassesOwn (model X.prog X.w) X.A X.env X.xe:=by rw [h.xe]; exact PassesOwn.never
theorem s_St:∀ n:Nat,(∀ X sc,XOk X sc ar cl k→∀ s c,cSt ar cl n sc s=some c→PS X s (tOfS X c))∧(∀ X sc,XOk X sc ar cl k→∀ s c,cSts ar cl n sc s=some c→PSs X s (tOfS X c))
 | 0=>⟨fun X sc h e c q=>(by cases q),fun X sc h e c q=>(by cases q)⟩
 | n+1=>by
  obtain ⟨ih,ihs⟩:=s_St n
  refine ⟨fun X sc h s c q=>?_,fun X sc h ss c q=>?_⟩
  ·have hf:=(s_all (ar:=ar) (cl:=cl) (k:=k) n).1 X sc h
   have ht:=(s_all (ar:=ar) (cl:=cl) (k:=k) n).2 X sc h
   have hg:=(s_G (ar:=ar) (cl:=cl) (k:=k) n).1 X sc h
   cases s with
   | Return v pos =>
    cases v with
    | none=>cases q; exact ss_retN
    | some e =>
     obtain ⟨ce,e1,q1⟩:=Option.map_eq_some_iff.mp q
     subst q1
     exact ss_ret (hf _ _ e1)
   | Expr e pos =>
    change (if isComp e=true then none else (cE ar cl n sc e).map fun c=>sExpr c)=some c at q
    split at q
    ·cases q
    ·rename_i hc
     obtain ⟨ce,e1,q1⟩:=Option.map_eq_some_iff.mp q
     subst q1
     exact ss_expr (hf _ _ e1) (swaps_no (by simpa using hc))
   | Assign tgs e pos =>
    cases tgs with
    | nil=>cases q
    | cons tg r =>
     cases r with
     | cons _ _=>cases q
     | nil =>
      change (if compBad tg e||(isTuple tg&&isTuple e&&!tupCell sc tg)||isLst tg||!notStar tg then none else (cE ar cl n sc e).bind fun c=>(cG ar cl n sc tg).map fun g=>sAsg c g)=some c at q
      split at q
      ·cases q
      ·rename_i hc
       simp only [Bool.or_eq_true,not_or,Bool.not_eq_true,Bool.not_eq_true',Bool.not_eq_false] at hc
       obtain ⟨⟨⟨c1,c2⟩,c3⟩,c4⟩:=hc
       obtain ⟨ce,e1,q1⟩:=Option.bind_eq_some_iff.mp q
       obtain ⟨g,e2,q2⟩:=Option.map_eq_some_iff.mp q1
       subst q2
       rcases compBad_or c1 with c1 | ⟨x,px,elt,gens,scope,pc,rfl,rfl⟩
       ·refine ss_asg (hf _ _ e1) (hg _ _ e2) (c1 _ _) (swapped_no2 h c2 c3) ?_
        rw [assignEach_cons (by simpa using c4)]; rfl
       ·obtain ⟨b,hb⟩:=swaps_comp (elt:=elt) (gens:=gens) (scope:=scope) (pos:=pc) (pos':=px) (x:=x) (line:=pos.line) (env:=X.env)
        cases b with
        | false=>exact ss_asg (hf _ _ e1) (hg _ _ e2) hb (swapped_no2 h c2 c3) (by rw [assignEach_cons (by simpa using c4)]; rfl)
        | true =>
         cases n with
         | zero=>cases e2
         | succ n =>
          obtain ⟨i,rfl,h1,h2,h3⟩:=s_tg h e2
          exact ss_set (s_compSet h e1 (pg_name h.nd' h1 h2 h3) hb)
   | If t a b pos =>
    obtain ⟨ct,e0,q1⟩:=Option.bind_eq_some_iff.mp q
    obtain ⟨ca,e1,q2⟩:=Option.bind_eq_some_iff.mp q1
    obtain ⟨cb,e2,q3⟩:=Option.map_eq_some_iff.mp q2
    subst q3
    exact ss_if (ht _ _ e0) (ihs X sc h _ _ e1) (ihs X sc h _ _ e2)
   | For tg it body els pos =>
    cases els with
    | cons _ _=>cases q
    | nil =>
     obtain ⟨ci,e0,q1⟩:=Option.bind_eq_some_iff.mp q
     obtain ⟨g,e1,q2⟩:=Option.bind_eq_some_iff.mp q1
     obtain ⟨cb,e2,q3⟩:=Option.map_eq_some_iff.mp q2
     subst q3
     obtain ⟨i1,i2⟩:=s_iter h hf e0
     exact ss_for (pass_no h) h.calm i1 (hg _ _ e1) (ihs X sc h _ _ e2) (folded_ok i2)
   | While t body els pos =>
    cases els with
    | cons _ _=>cases q
    | nil =>
     obtain ⟨ct,e0,q1⟩:=Option.bind_eq_some_iff.mp q
     obtain ⟨cb,e2,q3⟩:=Option.map_eq_some_iff.mp q1
     subst q3
     exact ss_while wfuel (pass_no h) (ht _ _ e0) (ihs X sc h _ _ e2)
   | Pass pos=>cases q; exact ss_pass
   | Break pos=>cases q; exact ss_brk
   | Continue pos=>cases q; exact ss_cnt
   | Raise a b pos=>cases q; exact ss_bad
   | _=>cases q
  ·cases ss with
   | nil=>cases q; exact sss_nil
   | cons s r =>
    obtain ⟨c1,e1,q1⟩:=Option.bind_eq_some_iff.mp q
    obtain ⟨c2,e2,q2⟩:=Option.map_eq_some_iff.mp q1
    subst q2
    exact sss_cons (ih X sc h _ _ e1) (ihs X sc h _ _ e2)
noncomputable def startE (n:Nat) (ds:List D):Env1:=ds.map some++List.replicate (n - ds.length) none
noncomputable def runF (np nN:Nat) (b:CS):List D→M D:=fun ds S=>if ds.length=np then (match b (startE nN ds) S with
 | .nx _ S'=>.ok .non S'
 | .rt d S'=>.ok d S'
 | .er c S'=>.er c S'
 | _=>.bad) else .bad
theorem RVs.begins {K:W.Frag}{H:Hp}{μ:List Addr}{N:List Str}{ds:List D}{vs:List V} (r:RVs K H μ ds vs):RE K H μ (startE N.length ds) (start N vs):=by
 unfold startE start
 refine ⟨by simp [r.len],fun i d e=>?_⟩
 by_cases hi:i<ds.length
 ·rw [List.getElem?_append_left (by simpa using hi),List.getElem?_map] at e
  rw [List.getElem?_append_left (by rw [List.length_map,← r.len]; exact hi),List.getElem?_map]
  cases q:ds[i]? with
  | none=>rw [q] at e; cases e
  | some d' =>
   rw [q] at e; cases e
   obtain ⟨v,e1,e2⟩:=r.get q
   exact ⟨v,by rw [e1]; rfl,e2⟩
 ·rw [List.getElem?_append_right (by simpa using hi),List.getElem?_replicate] at e
  split at e <;> cases e
noncomputable def fnOk (N ps:List Str) (scope:Scope):Bool :=
 decide (scope.kind=.function)&&!scope.isCoroutine&&!scope.isGenerator&&decide N.Nodup&&decide (N.take ps.length=ps)&&ps.all (fun x=>scope.names.lookup x == some .local||scope.names.lookup x == some .cell)&&scope.names.all (fun y=>y.2 != .free)
theorem fnOk_scope {N ps:List Str}{scope:Scope} (h:fnOk N ps scope=true):FnScope N ps scope:=by
 unfold fnOk at h
 simp only [Bool.and_eq_true,decide_eq_true_eq,Bool.not_eq_true'] at h
 obtain ⟨⟨⟨⟨⟨⟨c1,c2⟩,c3⟩,c4⟩,c5⟩,c6⟩,c7⟩:=h
 refine ⟨c1,c2,c3,c4,c5,fun x hx=>?_,fun y hy=>?_⟩
 ·have:=List.all_eq_true.mp c6 x hx
  simpa using this
 ·have:=List.all_eq_true.mp c7 y hy
  simpa using this
theorem s_fn {P:Program}{w:World}{K:W.Frag}{mg:Str→Option Value}{base:Heap}{x:Str}{st:Stmt}{fa:Addr}{fd:FuncData}{N ps:List Str}{fuel:Nat}{b:CS} (F:Fun K x x st fa fd)
  (hs:fnOk N ps (defScope st)=true) (hc:cSts ar cl fuel ⟨N,(defScope st).names,some x⟩ (defBody st)=some b)
  (hB:MgOk ar mg)
  (ih:∀ y n,ar y=some n→(∃ ps,Callee P w K mg base y ps k (spOf K (cl y) n))∧∀ ds S d S',cl y ds S=.ok d S'→ds.length=n):FnOk P w K mg base CX0 (k+1) fa fd ps (spOf K (runF ps.length N.length b) ps.length):=by
 have S:=fnOk_scope hs
 refine F.ok (k:=k) S (fun vs H Q E h=>h.1) (fun cdv A outer s H vs Q E hr h=>?_)
 obtain ⟨hl,μ,ds,S0,d,S',sr,rv,e,y⟩:=h
 have hX:XOk (cxOf CX0 P w K mg base N x (defScope st) fa cdv A outer s H E).nox ⟨N,(defScope st).names,some x⟩ ar cl k:={
  calm:=rfl
  N:=rfl
  nd:=S.nd
  gl:=fun x hx=>hx
  loc:=fun x hx=>hx
  cel:=fun x hx=>hx
  fre:=fun x hx=>.inr hx
  fnn:=fun _ x=>rfl
  room:=hr
  xe:=rfl
  blt:=hB
  fns:=ih }
 refine ⟨_,(s_St fuel).2 _ _ hX _ _ hc,μ,startE N.length ds,S0,sr,rv.begins,?_⟩
 unfold runF at e
 split at e
 ·split at e
  ·rename_i ρ S2 he
   cases e
   rw [he]
   exact fun σ' H' μ' sr' st' re'=>y _ H' μ' sr' st' rv_non
  ·rename_i d' S2 he
   cases e
   rw [he]
   exact y
  ·cases e
  ·cases e
 ·cases e
theorem s_def {P:Program}{w:World}{K:W.Frag}{mg:Str→Option Value}{base:Heap}{x:Str}{st:Stmt}{fa:Addr}{fd:FuncData}{N ps:List Str}{fuel:Nat}{b:CS} (F:Fun K x x st fa fd) (m:mg x=some (.ref fa)) (hb:Binds K fd ps [])
  (hs:fnOk N ps (defScope st)=true) (hc:cSts ar cl fuel ⟨N,(defScope st).names,some x⟩ (defBody st)=some b)
  (hB:MgOk ar mg)
  (ih:∀ y n,ar y=some n→(∃ ps,Callee P w K mg base y ps k (spOf K (cl y) n))∧∀ ds S d S',cl y ds S=.ok d S'→ds.length=n):Callee P w K mg base x ps (k+1) (spOf K (runF ps.length N.length b) ps.length) :=
 ⟨fa,fd,s_fn F hs hc hB ih,hb,F.kp,m⟩
end
open PySem PySem.Spec PyProof.Rows
noncomputable abbrev CLL:=Str→List D→M D
noncomputable abbrev Tbl:=List (Str × (Nat × Nat × (CLL→CS)))
noncomputable def arT (tbl:Tbl) (x:Str):Option Nat:=(tbl.lookup x).map (·.1)
noncomputable def callT (tbl:Tbl):Nat→CLL
 | 0,_=>fun _ _=>.bad
 | n+1,x=>match tbl.lookup x with
  | some p=>runF p.1 p.2.1 (p.2.2 (callT tbl n))
  | none=>fun _ _=>.bad
structure DefIn (K:W.Frag) (mg:Str→Option Value) (ar:Str→Option Nat) (x:Str) (p:Nat × Nat × (CLL→CS)):Prop where
 ex:∃ (st:Stmt) (fa:Addr) (fd:FuncData) (N ps:List Str) (fuel:Nat),Fun K x x st fa fd∧mg x=some (.ref fa)∧Binds K fd ps []∧fnOk N ps (defScope st)=true∧ps.length=p.1∧N.length=p.2.1 ∧
  ∀ cl:CLL,cSts ar cl fuel ⟨N,(defScope st).names,some x⟩ (defBody st)=some (p.2.2 cl)
theorem runF_len {np nN:Nat}{b:CS}{ds:List D}{S S':Store}{d:D} (h:runF np nN b ds S=.ok d S'):ds.length=np:=by
 unfold runF at h
 split at h
 ·assumption
 ·cases h
theorem lookup_mem {α:Type}{tbl:List (Str × α)}{x:Str}{p:α} (h:tbl.lookup x=some p):(x,p)∈tbl:=by
 induction tbl with
 | nil=>cases h
 | cons y r ih =>
  obtain ⟨y1,y2⟩:=y
  rw [List.lookup_cons] at h
  split at h
  ·rename_i e
   cases h
   have:x=y1:=by simpa using e
   subst this
   simp
  ·exact List.mem_cons_of_mem _ (ih h)
theorem tbl_ok {P:Program}{w:World}{K:W.Frag}{mg:Str→Option Value}{base:Heap}{tbl:Tbl} (hd:∀ x p,tbl.lookup x=some p→DefIn K mg (arT tbl) x p) (hB:MgOk (arT tbl) mg) :
  ∀ (k:Nat) (x:Str) (n:Nat),arT tbl x=some n→(∃ ps,Callee P w K mg base x ps k (spOf K (callT tbl k x) n))∧∀ ds S d S',callT tbl k x ds S=.ok d S'→ds.length=n
 | 0,x,n,h=>by
  obtain ⟨p,hp,rfl⟩:=Option.map_eq_some_iff.mp h
  obtain ⟨st,fa,fd,N,ps,fuel,F,m,hb,_⟩:=(hd x p hp).ex
  have no:∀ ds S d S',callT tbl 0 x ds S=.ok d S'→False:=fun ds S d S' e=>by unfold callT at e; cases e
  refine ⟨⟨ps,fa,fd,⟨fun vs H Q E h=>?_,fun A outer s H args us vs Q E _ _ _ _ h=>?_⟩,hb,F.kp,m⟩,fun ds S d S' e=>(no _ _ _ _ e).elim⟩
  ·obtain ⟨_,μ,ds,S,d,S',_,_,e,_⟩:=h; exact (no _ _ _ _ e).elim
  ·obtain ⟨_,μ,ds,S,d,S',_,_,e,_⟩:=h; exact (no _ _ _ _ e).elim
 | k+1,x,n,h=>by
  obtain ⟨p,hp,rfl⟩:=Option.map_eq_some_iff.mp h
  obtain ⟨st,fa,fd,N,ps,fuel,F,m,hb,hs,e1,e2,hc⟩:=(hd x p hp).ex
  have ih:=tbl_ok (P:=P) (w:=w) (base:=base) hd hB k
  have q:=s_def (P:=P) (w:=w) (base:=base) (k:=k) F m hb hs (hc (callT tbl k)) hB ih
  have e3:callT tbl (k+1) x=runF p.1 p.2.1 (p.2.2 (callT tbl k)):=by
   show (match tbl.lookup x with | some p=>runF p.1 p.2.1 (p.2.2 (callT tbl k)) | none=>fun _ _=>.bad)=_
   rw [hp]
  rw [e1,e2] at q
  rw [e3]
  exact ⟨⟨ps,q⟩,fun ds S d S' e=>runF_len e⟩
noncomputable def spL (K:W.Frag):Sp:=fun vs H Q _=>∃ (a:Addr) (ns:List Int),vs=[.ref a]∧SqF K H a (ns.map V.int)∧ns.length≤63∧∀ H',Q (.bl true) H'
theorem sqF_of {K:W.Frag}{H:Hp}{a:Addr}{xs:List V} (o:Only H) (h:SqL K H a xs):SqF K H a xs:=by
 rcases h with (h | ⟨w,h⟩) | h
 ·rcases o a with q | ⟨w,ys,q⟩
  ·rw [h] at q; cases q
  ·rw [h] at q; cases q
 ·exact .inl ⟨w,h⟩
 ·exact .inr h
theorem law_ok {P:Program}{w:World}{K:W.Frag}{mg:Str→Option Value}{base:Heap}{tbl:Tbl}{fa:Addr}{fd:FuncData}{st:Stmt}{L nN fuel:Nat}{N:List Str}{b:CLL→CS} (hd:∀ x p,tbl.lookup x=some p→DefIn K mg (arT tbl) x p) (hB:MgOk (arT tbl) mg)
  (hl:tbl.lookup ("law":Str)=some (1,nN,b)) (F:Fun K "law" "law" st fa fd) (hs:fnOk N ["_law_script"] (defScope st)=true) (hN:N.length=nN) (hc:∀ cl:CLL,cSts (arT tbl) cl fuel ⟨N,(defScope st).names,some "law"⟩ (defBody st)=some (b cl))
  (hlaw:∀ ns:List Int,ns.length≤63→∃ S',callT tbl (L+1) "law" [.rol (ns.map D.int)] []=.ok (.bl true) S') :
  FnOk P w K mg base CX0 (L+1) fa fd ["_law_script"] (spL K):=by
 have q:=s_fn (P:=P) (w:=w) (base:=base) (k:=L) F hs (hc (callT tbl L)) hB (tbl_ok (P:=P) (w:=w) (base:=base) hd hB L)
 refine q.imp fun vs H Q E h=>?_
 obtain ⟨a,ns,rfl,hS,hn,hQ⟩:=h
 obtain ⟨S',e⟩:=hlaw ns hn
 have e3:callT tbl (L+1) "law"=runF 1 nN (b (callT tbl L)):=by
  show (match tbl.lookup ("law":Str) with | some p=>runF p.1 p.2.1 (p.2.2 (callT tbl L)) | none=>fun _ _=>.bad)=_
  rw [hl]
 rw [e3] at e
 refine ⟨rfl,[],[.rol (ns.map D.int)],[],.bl true,S',⟨rfl,List.nodup_nil,fun n a o h=>by simp at h⟩,.cons (by unfold RV; exact ⟨a,_,rfl,hS,RVs.ints⟩) .nil,by rw [hN]; exact e,fun v H' μ' _ _ r=>?_⟩
 unfold RV at r
 subst r
 exact hQ H'
theorem walk_ev {l:W.OpenLaw}{q:Program}{loose:List Str}{XP:(Str→Option Value)→Heap→Prop}{YP:World→Heap→Prop}{d:DefRec}{K:Params→W.Frag}{L:Nat} (hn:l.most=some 63) (hdf:d.params.defaults=[]) (hr:Room L callerA)
  (hY:∀ (w:World) (h:Heap),YP w h→(K w.params).In h)
  (F:∀ (w:World) (mg:Str→Option Value) (fa:Addr) (h:Heap),(K w.params).In h→h.Ns mainGlobals mg→mg d.name=some (.ref fa) →
   ∃ fd:FuncData,(∀ (s:Shared) (u:Value),BindsTo s fd ⟨[u],[]⟩ [("_law_script",u)])∧∀ base:Heap,(K w.params).In base→base.Ns mainGlobals mg→FnOk l.prog w (K w.params) mg base CX0 L fa fd ["_law_script"] (spL (K w.params))) :
  W.WalkO q loose XP YP l.row.toRowW d [] (fun f vs=>PySem.call f vs) :=
 L2.walk_of (n:=63) (k:=L) (x := "_law_script") (CX:=fun _=>CX0) (sp:=fun w=>spL (K w.params)) hn (by decide) hdf hr hY F (fun _ _ a ns hl o hS=>⟨a,ns,rfl,sqF_of o hS,hl,fun _=>rfl⟩) fun _ _ _ _ _ z=>z
open PySem
noncomputable def AllIn (K:W.Frag) (mg:Str→Option Value) (ar:Str→Option Nat):Tbl→Prop
 | []=>True
 | e::r=>DefIn K mg ar e.1 e.2∧AllIn K mg ar r
theorem AllIn.mem {K:W.Frag}{mg:Str→Option Value}{ar:Str→Option Nat}:∀ {t:Tbl},AllIn K mg ar t→∀ x p,(x,p)∈t→DefIn K mg ar x p
 | [],_,x,p,h=>by cases h
 | e::r,⟨a,b⟩,x,p,h=>by
  rcases List.mem_cons.mp h with q | q
  ·subst q; exact a
  ·exact b.mem x p q
theorem AllIn.look {K:W.Frag}{mg:Str→Option Value}{ar:Str→Option Nat}{t:Tbl} (h:AllIn K mg ar t) (x:Str) (p:Nat × Nat × (CLL→CS)) (e:t.lookup x=some p):DefIn K mg ar x p:=h.mem x p (lookup_mem e)
theorem def_in {K:W.Frag}{mg:Str→Option Value}{ar:Str→Option Nat}{x:Str}{st:Stmt}{fa:Addr}{fd:FuncData}{N ps:List Str}{fuel np nN:Nat}{b:CLL→CS} (F:Fun K x x st fa fd) (m:mg x=some (.ref fa)) (hb:Binds K fd ps []) (hs:fnOk N ps (defScope st)=true)
  (hc:(fun cl:CLL=>cSts ar cl fuel ⟨N,(defScope st).names,some x⟩ (defBody st))=fun cl=>some (b cl)) (h1:ps.length=np:=by rfl) (h2:N.length=nN:=by rfl):DefIn K mg ar x (np,nN,b) :=
 ⟨st,fa,fd,N,ps,fuel,F,m,hb,hs,h1,h2,fun cl=>congrFun hc cl⟩
noncomputable def AllNone (mg:Str→Option Value):List Str→Prop
 | []=>True
 | x::r=>mg x=none∧AllNone mg r
theorem AllNone.mem {mg:Str→Option Value}:∀ {l:List Str},AllNone mg l→∀ x∈l,mg x=none
 | [],_,x,h=>by cases h
 | e::r,⟨a,b⟩,x,h=>by
  rcases List.mem_cons.mp h with q | q
  ·subst q; exact a
  ·exact b.mem x q
open PySem
inductive Tg {γ:Type} (f:γ):Type where
 | mk
noncomputable def rbnd {α β:Type} (r:R α) (f:α→Store→R β) (_:Tg f):R β:=match r with
 | .bad=>.bad
 | .er c S=>.er c S
 | .ok a S=>f a S
@[simp] theorem rbnd_ok {α β:Type} (a:α) (S:Store) (f:α→Store→R β):rbnd (.ok a S) f .mk=f a S:=rfl
@[simp] theorem rbnd_bad {α β:Type} (f:α→Store→R β):rbnd .bad f .mk=.bad:=rfl
@[simp] theorem bnd_ev {α β:Type} (m:M α) (f:α→M β) (S:Store):bnd m f S=rbnd (m S) f .mk:=rfl
@[simp] theorem ret_ev {α:Type} (a:α) (S:Store):ret a S=.ok a S:=rfl
@[simp] theorem bad_ev {α:Type} (S:Store):(bad:M α) S=.bad:=rfl
noncomputable def rs {α:Type} (r:R α) (f:α→Store→RS) (_:Tg f):RS:=match r with
 | .bad=>.bad
 | .er _ _=>.bad
 | .ok a S=>f a S
@[simp] theorem rs_ok {α:Type} (a:α) (S:Store) (f:α→Store→RS):rs (.ok a S) f .mk=f a S:=rfl
@[simp] theorem rs_bad {α:Type} (f:α→Store→RS):rs .bad f .mk=.bad:=rfl
noncomputable def sb (r:RS) (f:CS) (_:Tg f):RS:=match r with
 | .nx ρ S=>f ρ S
 | r=>r
@[simp] theorem sb_nx (ρ:Env1) (S:Store) (f:CS):sb (.nx ρ S) f .mk=f ρ S:=rfl
@[simp] theorem sb_rt (d:D) (S:Store) (f:CS):sb (.rt d S) f .mk=.rt d S:=rfl
@[simp] theorem sb_bk (ρ:Env1) (S:Store) (f:CS):sb (.bk ρ S) f .mk=.bk ρ S:=rfl
@[simp] theorem sb_ct (ρ:Env1) (S:Store) (f:CS):sb (.ct ρ S) f .mk=.ct ρ S:=rfl
@[simp] theorem sSeq_ev (a b:CS) (ρ:Env1) (S:Store):sSeq a b ρ S=sb (a ρ S) b .mk:=by
 unfold sSeq sb; cases a ρ S <;> rfl
@[simp] theorem sPass_ev (ρ:Env1) (S:Store):sPass ρ S=.nx ρ S:=rfl
@[simp] theorem sBrk_ev (ρ:Env1) (S:Store):sBrk ρ S=.bk ρ S:=rfl
@[simp] theorem sCnt_ev (ρ:Env1) (S:Store):sCnt ρ S=.ct ρ S:=rfl
@[simp] theorem sRetN_ev (ρ:Env1) (S:Store):sRetN ρ S=.rt .non S:=rfl
@[simp] theorem sRet_ev (c:C) (ρ:Env1) (S:Store):sRet c ρ S=rs (c ρ S) (fun d S'=>.rt d S') .mk:=by
 unfold sRet rs; cases c ρ S <;> rfl
@[simp] theorem sExpr_ev (c:C) (ρ:Env1) (S:Store):sExpr c ρ S=rs (c ρ S) (fun _ S'=>.nx ρ S') .mk:=by
 unfold sExpr rs; cases c ρ S <;> rfl
@[simp] theorem sAsg_ev (c:C) (g:G) (ρ:Env1) (S:Store):sAsg c g ρ S=rs (c ρ S) (fun d S1=>rs (g d ρ S1) (fun ρ' S2=>.nx ρ' S2) .mk) .mk:=by
 unfold sAsg rs
 cases c ρ S with
 | ok d S1=>dsimp only; cases g d ρ S1 <;> rfl
 | _=>rfl
@[simp] theorem sIf_ev (t:CT) (a b:CS) (ρ:Env1) (S:Store):sIf t a b ρ S=rs (t ρ S) (fun k S'=>if k then a ρ S' else b ρ S') .mk:=by
 unfold sIf rs; cases t ρ S <;> rfl
@[simp] theorem sFor_ev (it:CI) (g:G) (b:CS) (ρ:Env1) (S:Store):sFor it g b ρ S=rs (it ρ S) (fun p S1=>loopS p.2 g b p.1 ρ S1) .mk:=by
 unfold sFor rs
 cases it ρ S with
 | ok p S1=>obtain ⟨a,b⟩:=p; rfl
 | _=>rfl
@[simp] theorem gN_ev (i:Nat) (d:D) (ρ:Env1) (S:Store):gN i d ρ S=.ok (ρ.set i (some d)) S:=rfl
noncomputable def mo {α:Type} (o:Option α) (S':α→Store) (ρ:Env1):R Env1:=match o with
 | some x=>.ok ρ (S' x)
 | none=>.bad
@[simp] theorem gS_ev (co ci:C) (d:D) (ρ:Env1) (S:Store):gS co ci d ρ S=rbnd (co ρ S) (fun o S1=>rbnd (ci ρ S1) (fun i S2=>mo (oSet o i d S2) (fun x=>x) ρ) .mk) .mk:=by
 unfold gS
 rw [bnd_ev]
 cases co ρ S with
 | bad=>rfl
 | er _ _=>rfl
 | ok o S1 =>
  rw [rbnd_ok,rbnd_ok,bnd_ev]
  cases ci ρ S1 with
  | bad=>rfl
  | er _ _=>rfl
  | ok i S2 =>
   rw [rbnd_ok,rbnd_ok]
   cases h:oSet o i d S2 <;> rfl
@[simp] theorem mo_some {α:Type} (x:α) (f:α→Store) (ρ:Env1):mo (some x) f ρ=.ok ρ (f x):=rfl
@[simp] theorem gT_ev (gs:List G) (xs:List D) (ρ:Env1) (S:Store):gT gs (.tup xs) ρ S=gTs gs xs ρ S:=rfl
@[simp] theorem gTs_nil (ρ:Env1) (S:Store):gTs [] [] ρ S=.ok ρ S:=rfl
@[simp] theorem gTs_cons (g:G) (gs:List G) (x:D) (xs:List D) (ρ:Env1) (S:Store):gTs (g::gs) (x::xs) ρ S=rbnd (g x ρ S) (fun ρ1 S1=>gTs gs xs ρ1 S1) .mk:=rfl
@[simp] theorem cVar_ev (i:Nat) (ρ:Env1) (S:Store):cVar i ρ S=match ρ[i]? with | some (some d)=>.ok d S | _=>.bad:=rfl
@[simp] theorem cCon_ev (d:D) (ρ:Env1) (S:Store):cCon d ρ S=.ok d S:=rfl
@[simp] theorem cBin_ev (o:D→D→M D) (a b:C) (ρ:Env1) (S:Store):cBin o a b ρ S=rbnd (a ρ S) (fun x S1=>rbnd (b ρ S1) (fun y S2=>o x y S2) .mk) .mk:=rfl
@[simp] theorem cUn_ev (o:D→M D) (a:C) (ρ:Env1) (S:Store):cUn o a ρ S=rbnd (a ρ S) o .mk:=rfl
@[simp] theorem cArgs_nil (ρ:Env1) (S:Store):cArgs [] ρ S=.ok [] S:=rfl
@[simp] theorem cArgs_cons (c:C) (cs:List C) (ρ:Env1) (S:Store):cArgs (c::cs) ρ S=rbnd (c ρ S) (fun x S1=>rbnd (cArgs cs ρ S1) (fun xs S2=>.ok (x::xs) S2) .mk) .mk:=rfl
@[simp] theorem cApp_ev (o:List D→M D) (a:CA) (ρ:Env1) (S:Store):cApp o a ρ S=rbnd (a ρ S) o .mk:=rfl
@[simp] theorem cTup_ev (a:CA) (ρ:Env1) (S:Store):cTup a ρ S=rbnd (a ρ S) (fun xs S1=>.ok (.tup xs) S1) .mk:=rfl
@[simp] theorem cLst_ev (a:CA) (ρ:Env1) (S:Store):cLst a ρ S=rbnd (a ρ S) (fun xs S1=>.ok (.lst S1.length) (S1++[.lst xs])) .mk:=rfl
@[simp] theorem cIf_ev (t:CT) (a b:C) (ρ:Env1) (S:Store):cIf t a b ρ S=rbnd (t ρ S) (fun k S1=>if k then a ρ S1 else b ρ S1) .mk:=by
 unfold cIf; rw [bnd_ev]
 cases t ρ S with
 | ok k S1=>cases k <;> rfl
 | bad=>rfl
 | er _ _=>rfl
@[simp] theorem cBool_ev (a:C) (ρ:Env1) (S:Store):cBool a ρ S=rbnd (a ρ S) (fun x S1=>dB x S1) .mk:=rfl
@[simp] theorem dB_ev (b:Bool) (S:Store):dB (.bl b) S=.ok b S:=rfl
@[simp] theorem cAndV_ev (a b:C) (ρ:Env1) (S:Store):cAndV a b ρ S=rbnd (cBool a ρ S) (fun k S1=>if k then b ρ S1 else .ok (.bl false) S1) .mk:=by
 unfold cAndV; rw [bnd_ev]
 cases cBool a ρ S with
 | ok k S1=>cases k <;> rfl
 | bad=>rfl
 | er _ _=>rfl
@[simp] theorem cOrV_ev (a b:C) (ρ:Env1) (S:Store):cOrV a b ρ S=rbnd (cBool a ρ S) (fun k S1=>if k then .ok (.bl true) S1 else b ρ S1) .mk:=by
 unfold cOrV; rw [bnd_ev]
 cases cBool a ρ S with
 | ok k S1=>cases k <;> rfl
 | bad=>rfl
 | er _ _=>rfl
@[simp] theorem cNotV_ev (a:C) (ρ:Env1) (S:Store):cNotV a ρ S=rbnd (cBool a ρ S) (fun k S1=>.ok (.bl (!k)) S1) .mk:=rfl
@[simp] theorem cAndT_ev (a b:CT) (ρ:Env1) (S:Store):cAndT a b ρ S=rbnd (a ρ S) (fun k S1=>if k then b ρ S1 else .ok false S1) .mk:=by
 unfold cAndT; rw [bnd_ev]
 cases a ρ S with
 | ok k S1=>cases k <;> rfl
 | bad=>rfl
 | er _ _=>rfl
@[simp] theorem cOrT_ev (a b:CT) (ρ:Env1) (S:Store):cOrT a b ρ S=rbnd (a ρ S) (fun k S1=>if k then .ok true S1 else b ρ S1) .mk:=by
 unfold cOrT; rw [bnd_ev]
 cases a ρ S with
 | ok k S1=>cases k <;> rfl
 | bad=>rfl
 | er _ _=>rfl
@[simp] theorem cNotT_ev (a:CT) (ρ:Env1) (S:Store):cNotT a ρ S=rbnd (a ρ S) (fun k S1=>.ok (!k) S1) .mk:=rfl
@[simp] theorem cChain_ev (o o':D→D→M D) (a b c:C) (ρ:Env1) (S:Store):cChain o o' a b c ρ S=rbnd (a ρ S) (fun x S1=>rbnd (b ρ S1) (fun y S2=>rbnd (o x y S2) (fun z S3=>rbnd (dB z S3) (fun k S4=>if k then rbnd (c ρ S4) (fun w S5=>o' y w S5) .mk else .ok (.bl false) S4) .mk) .mk) .mk) .mk:=by
 unfold cChain
 rw [bnd_ev]
 cases a ρ S with
 | bad=>rfl
 | er _ _=>rfl
 | ok x S1 =>
  rw [rbnd_ok,rbnd_ok,bnd_ev]
  cases b ρ S1 with
  | bad=>rfl
  | er _ _=>rfl
  | ok y S2 =>
   rw [rbnd_ok,rbnd_ok,bnd_ev]
   cases o x y S2 with
   | bad=>rfl
   | er _ _=>rfl
   | ok z S3 =>
    rw [rbnd_ok,rbnd_ok,bnd_ev]
    cases dB z S3 with
    | bad=>rfl
    | er _ _=>rfl
    | ok k S4=>cases k <;> rfl
@[simp] theorem cTru_ev (a:C) (ρ:Env1) (S:Store):cTru a ρ S=rbnd (a ρ S) (fun x S1=>dTru x S1) .mk:=rfl
@[simp] theorem dTru_bl (b:Bool) (S:Store):dTru (.bl b) S=.ok b S:=rfl
@[simp] theorem dTru_int (i:Int) (S:Store):dTru (.int i) S=.ok (i != 0) S:=rfl
@[simp] theorem dTru_tup (xs:List D) (S:Store):dTru (.tup xs) S=.ok (!xs.isEmpty) S:=rfl
@[simp] theorem cNoPart_ev (ρ:Env1) (S:Store):cNoPart ρ S=.ok none S:=rfl
@[simp] theorem cPart_ev (a:C) (ρ:Env1) (S:Store):cPart a ρ S=rbnd (a ρ S) (fun x S1=>rbnd (dInt x S1) (fun i S2=>.ok (some i) S2) .mk) .mk:=rfl
@[simp] theorem dInt_ev (i:Int) (S:Store):dInt (.int i) S=.ok i S:=rfl
@[simp] theorem cSl_ev (o:D→Option Int→Option Int→M D) (a:C) (lo hi:CO) (ρ:Env1) (S:Store):cSl o a lo hi ρ S=rbnd (a ρ S) (fun x S1=>rbnd (lo ρ S1) (fun l S2=>rbnd (hi ρ S2) (fun h S3=>o x l h S3) .mk) .mk) .mk:=rfl
@[simp] theorem cMeth_ev (T:String) (o:D→List D→M D) (a:C) (as:CA) (ρ:Env1) (S:Store):cMeth T o a as ρ S=rbnd (a ρ S) (fun x S1=>if tyOk T x S1 then rbnd (as ρ S1) (fun xs S2=>o x xs S2) .mk else .bad) .mk:=rfl
@[simp] theorem iSeq_ev (c:C) (ρ:Env1) (S:Store):iSeq c ρ S=rbnd (c ρ S) (fun x S1=>match x with
 | .tup xs=>.ok (xs,[]) S1
 | .lst n=>match lstAt S1 n with
  | some xs=>.ok (xs,[(n,xs)]) S1
  | none=>.bad
 | _=>.bad) .mk:=rfl
@[simp] theorem iRange1_ev (a:CA) (ρ:Env1) (S:Store):iRange1 a ρ S=rbnd (a ρ S) (fun xs S1=>match xs with
 | [.int j]=>if -4611686018427387904≤j∧j<4611686018427387904 then .ok (upD 0 j.toNat,[]) S1 else .bad
 | _=>.bad) .mk:=rfl
@[simp] theorem iRange2_ev (a:CA) (ρ:Env1) (S:Store):iRange2 a ρ S=rbnd (a ρ S) (fun xs S1=>match xs with
 | [.int i,.int j]=>if -4611686018427387904≤i∧i<4611686018427387904∧-4611686018427387904≤j∧j<4611686018427387904 then .ok (upD i (j - i).toNat,[]) S1 else .bad
 | _=>.bad) .mk:=rfl
@[simp] theorem iZipL_ev (a:CA) (ρ:Env1) (S:Store):iZipL a ρ S=rbnd (a ρ S) (fun xs S1=>match xs with
 | [x,y]=>match zsAt S1 x,zsAt S1 y with
  | some ys,some zs=>.ok (zipD ys zs,watchOf x ys++watchOf y zs) S1
  | _,_=>.bad
 | _=>.bad) .mk:=rfl
@[simp] theorem watchOf_lst (n:Nat) (xs:List D):watchOf (.lst n) xs=[(n,xs)]:=rfl
@[simp] theorem watchOf_tup (ys:List D) (xs:List D):watchOf (.tup ys) xs=[]:=rfl
@[simp] theorem zsAt_lst (S:Store) (n:Nat):zsAt S (.lst n)=lstAt S n:=rfl
@[simp] theorem zsAt_tup (S:Store) (xs:List D):zsAt S (.tup xs)=some xs:=rfl
@[simp] theorem iEnumT_ev (a:CA) (ρ:Env1) (S:Store):iEnumT a ρ S=rbnd (a ρ S) (fun xs S1=>match xs with
 | [.tup ys]=>.ok (enumD ys,[]) S1
 | [.lst n]=>match lstAt S1 n with
  | some ys=>.ok (enumD ys,[(n,ys)]) S1
  | none=>.bad
 | _=>.bad) .mk:=rfl
@[simp] theorem cComp_ev (it:CI) (k:Nat) (js:List Nat) (t:Tgt) (tc:CT) (c:C) (ρ:Env1) (S:Store):cComp it k js t tc c ρ S=rbnd (it ρ S) (fun p S1=>if p.1.length<lim then rbnd (loopC p.2 t tc c (stE k js ρ) p.1 S1) (fun ys S'=>.ok (.lst S'.length) (S'++[.lst ys])) .mk else .bad) .mk:=rfl
@[simp] theorem cDNew_ev (ρ:Env1) (S:Store):cDNew ρ S=.ok (.dct S.length) (S++[.dk []]):=rfl
@[simp] theorem cDOne_ev (a b:C) (ρ:Env1) (S:Store):cDOne a b ρ S=rbnd (a ρ S) (fun x S1=>rbnd (b ρ S1) (fun y S2=>match keyOf x with
 | some k=>.ok (.dct S2.length) (S2++[.dk [(k,y)]])
 | none=>.bad) .mk) .mk:=rfl
@[simp] theorem oAdd_int (i j:Int) (S:Store):oAdd (.int i) (.int j) S=.ok (.int (i+j)) S:=rfl
@[simp] theorem oAdd_tup (xs ys:List D) (S:Store):oAdd (.tup xs) (.tup ys) S=if xs.length+ys.length≤lim then .ok (.tup (xs++ys)) S else .bad:=rfl
@[simp] theorem oInt_ev (g:Int→Int→Int) (i j:Int) (S:Store):oInt g (.int i) (.int j) S=.ok (.int (g i j)) S:=rfl
@[simp] theorem oMul_int (i j:Int) (S:Store):oMul (.int i) (.int j) S=if mulOk i j then .ok (.int (i*j)) S else .bad:=rfl
@[simp] theorem oMod_int (i j:Int) (S:Store):oMod (.int i) (.int j) S=if 0<j then .ok (.int (i % j)) S else .bad:=rfl
@[simp] theorem oDiv_int (i j:Int) (S:Store):oDiv (.int i) (.int j) S=if 0<j∧j<1073741824 then .ok (.int (i / j)) S else .bad:=rfl
@[simp] theorem oPow_int (i j:Int) (S:Store):oPow (.int i) (.int j) S=if 0≤j∧j≤1000000∧i.natAbs<18446744073709551616 then .ok (.int (i ^ j.toNat)) S else .bad:=rfl
@[simp] theorem oShl_int (i j:Int) (S:Store):oShl (.int i) (.int j) S=if 0≤j∧j≤1000000∧i.natAbs<18446744073709551616 then .ok (.int (i*2 ^ j.toNat)) S else .bad:=rfl
@[simp] theorem oShr_int (i j:Int) (S:Store):oShr (.int i) (.int j) S=if 0≤j then .ok (.int (i / 2 ^ j.toNat)) S else .bad:=rfl
@[simp] theorem oNeg_int (i:Int) (S:Store):oNeg (.int i) S=.ok (.int (-i)) S:=rfl
@[simp] theorem oCmp_int (g:Int→Int→Bool) (i j:Int) (S:Store):oCmp g (.int i) (.int j) S=.ok (.bl (g i j)) S:=rfl
@[simp] theorem oLt_int (i j:Int) (S:Store):oLt (.int i) (.int j) S=.ok (.bl (decide (i<j))) S:=rfl
theorem eqv_int (i j:Int):PyData.eqv (.int i) (.int j)=decide (i=j):=by
 show (i == j)=decide (i=j)
 rfl
@[simp] theorem oEq_int (i j:Int) (S:Store):oEq (.int i) (.int j) S=.ok (.bl (decide (i=j))) S:=by
 show R.ok (D.bl (PyData.eqv (.int i) (.int j))) S=_
 rw [eqv_int]
@[simp] theorem oNe_int (i j:Int) (S:Store):oNe (.int i) (.int j) S=.ok (.bl (!decide (i=j))) S:=by
 show R.ok (D.bl (!PyData.eqv (.int i) (.int j))) S=_
 rw [eqv_int]
@[simp] theorem oEq_bl (i j:Bool) (S:Store):oEq (.bl i) (.bl j) S=.ok (.bl (i == j)) S:=by
 show R.ok (D.bl (PyData.eqv (.bool i) (.bool j))) S=_
 cases i <;> cases j <;> rfl
@[simp] theorem oNe_bl (i j:Bool) (S:Store):oNe (.bl i) (.bl j) S=.ok (.bl (i != j)) S:=by
 show R.ok (D.bl (!PyData.eqv (.bool i) (.bool j))) S=_
 cases i <;> cases j <;> rfl
@[simp] theorem oIs_non (x:D) (S:Store):oIs x .non S=.ok (.bl x.isNon) S:=by cases x <;> rfl
@[simp] theorem oIsNot_non (x:D) (S:Store):oIsNot x .non S=.ok (.bl (!x.isNon)) S:=by cases x <;> rfl
@[simp] theorem oIs_bl (a b:Bool) (S:Store):oIs (.bl a) (.bl b) S=.ok (.bl (a == b)) S:=rfl
@[simp] theorem oIsNot_bl (a b:Bool) (S:Store):oIsNot (.bl a) (.bl b) S=.ok (.bl (a != b)) S:=rfl
@[simp] theorem fMin_ev (i j:Int) (S:Store):fMin [.int i,.int j] S=.ok (.int (if j<i then j else i)) S:=rfl
@[simp] theorem fMax_ev (i j:Int) (S:Store):fMax [.int i,.int j] S=.ok (.int (if j>i then j else i)) S:=rfl
@[simp] theorem fInt_int (i:Int) (S:Store):fInt [.int i] S=.ok (.int i) S:=rfl
@[simp] theorem fInt_bl (b:Bool) (S:Store):fInt [.bl b] S=.ok (.int (if b then 1 else 0)) S:=rfl
@[simp] theorem fTuple_tup (xs:List D) (S:Store):fTuple [.tup xs] S=.ok (.tup xs) S:=rfl
theorem fTuple_lst {n:Nat}{xs:List D}{S:Store} (h:lstAt S n=some xs):fTuple [.lst n] S=.ok (.tup xs) S:=by
 show (match lstAt S n with | some ys=>R.ok (D.tup ys) S | none=>.bad)=_
 rw [h]
@[simp] theorem fLen_tup (xs:List D) (S:Store):fLen [.tup xs] S=.ok (.int xs.length) S:=rfl
@[simp] theorem fLen_rol (xs:List D) (S:Store):fLen [.rol xs] S=.ok (.int xs.length) S:=rfl
theorem fLen_lst {n:Nat}{xs:List D}{S:Store} (h:lstAt S n=some xs):fLen [.lst n] S=.ok (.int xs.length) S:=by
 show (match seqAt S (.lst n) with | some ys=>R.ok (D.int ys.length) S | none=>.bad)=_
 show (match lstAt S n with | some ys=>R.ok (D.int ys.length) S | none=>.bad)=_
 rw [h]
@[simp] theorem fList_tup (xs:List D) (S:Store):fList [.tup xs] S=.ok (.lst S.length) (S++[.lst xs]):=rfl
@[simp] theorem oIx_tup (xs:List D) (j:Int) (S:Store):oIx (.tup xs) (.int j) S=match atI xs j with | some d=>.ok d S | none=>.bad:=rfl
@[simp] theorem oIx_rol (xs:List D) (j:Int) (S:Store):oIx (.rol xs) (.int j) S=match atI xs j with | some d=>.ok d S | none=>.bad:=rfl
theorem oIx_lst {n:Nat}{xs:List D}{S:Store} (h:lstAt S n=some xs) (j:Int):oIx (.lst n) (.int j) S=match atI xs j with | some d=>.ok d S | none=>.bad:=by
 show (match lstAt S n,D.int j with | some xs,.int j=>(match atI xs j with | some d=>R.ok d S | none=>.bad) | _,_=>.bad)=_
 rw [h]
@[simp] theorem oSl_tup (xs:List D) (lo hi:Option Int) (S:Store):oSl (.tup xs) lo hi S=.ok (.tup (cutD xs lo hi)) S:=rfl
theorem oSl_lst {n:Nat}{xs:List D}{S:Store} (h:lstAt S n=some xs) (lo hi:Option Int):oSl (.lst n) lo hi S=.ok (.lst S.length) (S++[.lst (cutD xs lo hi)]):=by
 show (match lstAt S n with | some xs=>R.ok (D.lst S.length) (S++[O.lst (cutD xs lo hi)]) | none=>.bad)=_
 rw [h]
@[simp] theorem atI_0 {α:Type} (x:α) (xs:List α):atI (x::xs) 0=some x:=atI_nat (j:=0) rfl
@[simp] theorem atI_1 {α:Type} (x y:α) (xs:List α):atI (x::y::xs) 1=some y:=atI_nat (j:=1) rfl
@[simp] theorem atI_2 {α:Type} (x y z:α) (xs:List α):atI (x::y::z::xs) 2=some z:=atI_nat (j:=2) rfl
@[simp] theorem atI_3 {α:Type} (x y z w:α) (xs:List α):atI (x::y::z::w::xs) 3=some w:=atI_nat (j:=3) rfl
structure Kp (P:Nat→Prop) (S S':Store):Prop where
 le:S.length≤S'.length
 eq:∀ j,j<S.length→¬ P j→S'[j]?=S[j]?
noncomputable abbrev Ex:Store→Store→Prop:=Kp fun _=>False
inductive Spc {α:Type} (m:R α) (r:α) (S:Store):Prop
 | mk (S1:Store) (e:m=.ok r S1) (x:Ex S S1)
theorem Kp.refl (P:Nat→Prop) (S:Store):Kp P S S:=⟨Nat.le_refl _,fun _ _ _=>rfl⟩
theorem Kp.trans {P:Nat→Prop}{S S1 S2:Store} (a:Kp P S S1) (b:Kp P S1 S2):Kp P S S2:=⟨Nat.le_trans a.le b.le,fun j h n=>(b.eq j (Nat.lt_of_lt_of_le h a.le) n).trans (a.eq j h n)⟩
theorem Ex.kp {P:Nat→Prop}{S S':Store} (h:Ex S S'):Kp P S S':=⟨h.le,fun j hj _=>h.eq j hj (fun z=>z)⟩
theorem Kp.kp {P:Nat→Prop}{S S':Store} (h:Kp (fun _=>False) S S'):Kp P S S':=⟨h.le,fun j hj _=>h.eq j hj (fun z=>z)⟩
theorem ex_app (S T:Store):Ex S (S++T):=⟨by simp,fun j h _=>List.getElem?_append_left h⟩
theorem kp_set {i:Nat} (S:Store) (o:O):Kp (·=i) S (S.set i o):=⟨by simp,fun j h n=>List.getElem?_set_ne fun z=>n z.symm⟩
theorem Kp.at {P:Nat→Prop}{S S':Store} (h:Kp P S S') {j:Nat}{o:O} (e:S[j]?=some o) (n:¬ P j):S'[j]?=some o:=by
 rw [h.eq j (List.getElem?_eq_some_iff.mp e).1 n]; exact e
theorem lstAt_some {S:Store}{n:Nat}{xs:List D} (h:lstAt S n=some xs):S[n]?=some (.lst xs):=by
 unfold lstAt at h
 split at h
 ·rename_i ys e; cases h; exact e
 ·cases h
theorem lstAt_of {S:Store}{n:Nat}{xs:List D} (h:S[n]?=some (.lst xs)):lstAt S n=some xs:=by unfold lstAt; rw [h]
theorem Kp.lst {P:Nat→Prop}{S S':Store} (h:Kp P S S') {j:Nat}{xs:List D} (e:lstAt S j=some xs) (n:¬ P j):lstAt S' j=some xs:=lstAt_of (h.at (lstAt_some e) n)
theorem lstAt_lt {S:Store}{n:Nat}{xs:List D} (h:lstAt S n=some xs):n<S.length:=(List.getElem?_eq_some_iff.mp (lstAt_some h)).1
@[simp] theorem lstAt_new (S:Store) (xs:List D):lstAt (S++[.lst xs]) S.length=some xs:=lstAt_of (by rw [List.getElem?_append_right (Nat.le_refl _),Nat.sub_self]; rfl)
theorem lstAt_app {S T:Store}{n:Nat}{xs:List D} (h:lstAt S n=some xs):lstAt (S++T) n=some xs:=(ex_app S T).lst h fun z=>z
theorem lstAt_set {S:Store}{n:Nat}{xs ys:List D} (h:lstAt S n=some xs):lstAt (S.set n (.lst ys)) n=some ys:=lstAt_of (List.getElem?_set_self (lstAt_lt h))
theorem tyOk_lst {S:Store}{n:Nat}{xs:List D} (h:lstAt S n=some xs):tyOk "list" (.lst n) S=true:=by
 show (decide ("list" = "list")&&(lstAt S n).isSome)=true
 rw [h]; rfl
theorem mList_ev {S:Store}{n:Nat}{ys:List D} (h:lstAt S n=some ys) (g:List D→List D→Option (List D × D)) (xs:List D):mList g (.lst n) xs S=match g ys xs with | some p=>.ok p.2 (S.set n (.lst p.1)) | none=>.bad:=by
 unfold mList
 dsimp only
 rw [lstAt_some h]
 dsimp only
 cases g ys xs with
 | none=>rfl
 | some p=>rfl
@[simp] theorem gAppend_ev (ys:List D) (x:D):gAppend ys [x]=if ys.length<lim then some (ys++[x],.non) else none:=rfl
@[simp] theorem gInsert_ev (ys:List D) (i:Int) (x:D):gInsert ys [.int i,x]=if ys.length<1000∧0≤i∧i.toNat≤ys.length then some (ys.take i.toNat++x::ys.drop i.toNat,.non) else none:=rfl
theorem oSet_lst {S:Store}{n:Nat}{ys:List D} (h:lstAt S n=some ys) (k:Int) (v:D):oSet (.lst n) (.int k) v S=match ixN ys.length k with | some j=>some (S.set n (.lst (ys.set j v))) | none=>none:=by
 unfold oSet
 dsimp only
 rw [lstAt_some h]
 all_goals (dsimp only; cases ixN ys.length k <;> rfl)
theorem okW_nil (S:Store):okW [] S:=fun p h=>by cases h
theorem okW_one {S:Store}{n:Nat}{xs:List D} (h:lstAt S n=some xs):okW [(n,xs)] S:=fun p hp=>by
 simp at hp; subst hp; exact h
theorem okW_two {S:Store}{n m:Nat}{xs ys:List D} (h:lstAt S n=some xs) (h2:lstAt S m=some ys):okW [(n,xs),(m,ys)] S:=fun p hp=>by
 simp at hp
 rcases hp with rfl | rfl
 ·exact h
 ·exact h2
theorem loop_go {w:Watch}{g:G}{b:CS}:∀ (items:List D) (P:Nat→Env1→Store→Prop) {ρ:Env1}{S:Store} (k:Nat),(∀ i ρ S,P i ρ S→okW w S)→P k ρ S →
  (∀ i d ρ S,items[i]?=some d→P (k+i) ρ S→∃ ρ1 S1,g d ρ S=.ok ρ1 S1∧∃ ρ2 S2,(b ρ1 S1=.nx ρ2 S2∨b ρ1 S1=.ct ρ2 S2)∧P (k+i+1) ρ2 S2)→∃ ρ' S',loopS w g b items ρ S=.nx ρ' S'∧P (k+items.length) ρ' S'
 | [],P,ρ,S,k,hw,h0,hs=>⟨ρ,S,by unfold loopS; rw [if_pos (hw k ρ S h0)],by simpa using h0⟩
 | d::ds,P,ρ,S,k,hw,h0,hs=>by
  obtain ⟨ρ1,S1,e1,ρ2,S2,e2,p2⟩:=hs 0 d ρ S rfl (by simpa using h0)
  obtain ⟨ρ',S',e3,p3⟩:=loop_go ds P (k+1) hw (by simpa using p2) (fun i d' ρ S hi hp=>by
   obtain ⟨ρ1,S1,q1,ρ2,S2,q2,q3⟩:=hs (i+1) d' ρ S (by rw [List.getElem?_cons_succ]; exact hi) (by rw [show k+(i+1)=k+1+i by omega]; exact hp)
   exact ⟨ρ1,S1,q1,ρ2,S2,q2,by rw [show k+1+i+1=k+(i+1)+1 by omega]; exact q3⟩)
  refine ⟨ρ',S',?_,by rw [List.length_cons,show k+(ds.length+1)=k+1+ds.length by omega]; exact p3⟩
  unfold loopS
  rw [if_pos (hw k ρ S h0),e1]
  dsimp only
  rcases e2 with e2 | e2
  ·rw [e2]; exact e3
  ·rw [e2]; exact e3
inductive TurnE (r:RS) (P:Env1→Store→Prop):Prop
 | mk (ρ2:Env1) (S2:Store) (h:r=.nx ρ2 S2∨r=.ct ρ2 S2) (p:P ρ2 S2)
inductive TurnR (g:G) (b:CS) (d:D) (ρ:Env1) (S:Store) (P:Env1→Store→Prop):Prop
 | mk (ρ1:Env1) (S1:Store) (e:g d ρ S=.ok ρ1 S1) (t:TurnE (b ρ1 S1) P)
inductive LoopR (r:RS) (P:Env1→Store→Prop):Prop
 | mk (ρ':Env1) (S':Store) (e:r=.nx ρ' S') (p:P ρ' S')
theorem loop_inv {w:Watch}{g:G}{b:CS}{items:List D} (P:Nat→Env1→Store→Prop) {ρ:Env1}{S:Store} (hw:∀ i ρ S,P i ρ S→okW w S) (h0:P 0 ρ S)
  (hs:∀ i d ρ S,items[i]?=some d→P i ρ S→TurnR g b d ρ S (P (i+1))):LoopR (loopS w g b items ρ S) (P items.length):=by
 obtain ⟨ρ',S',e,p⟩:=loop_go items P 0 hw h0 (fun i d ρ S hi hp=>by
  obtain ⟨ρ1,S1,q1,ρ2,S2,q2,q3⟩:=hs i d ρ S hi (by simpa using hp)
  exact ⟨ρ1,S1,q1,ρ2,S2,q2,by simpa using q3⟩)
 exact ⟨ρ',S',e,by simpa using p⟩
inductive CompR (m:R (List D)) (r:List D) (P:Store→Prop):Prop
 | mk (S':Store) (e:m=.ok r S') (p:P S')
theorem comp_goM {α:Type} (e:α→D) {w:Watch}{t:Tgt}{tc:CT}{c:C}{ρ0:Env1} (P:Store→Prop) (hw:∀ S,P S→okW w S) (p:α→Bool) (f:α→D):∀ (l:List α) {S:Store},P S →
  (∀ a∈l,∀ S,P S→∃ ρ1,bindT t (e a) ρ0=some ρ1∧∃ S1,tc ρ1 S=.ok (p a) S1∧(p a=false→P S1)∧(p a=true→∃ S2,c ρ1 S1=.ok (f a) S2∧P S2))→CompR (loopC w t tc c ρ0 (l.map e) S) ((l.filter p).map f) P
 | [],S,h0,hs=>⟨S,by rw [List.map_nil]; unfold loopC; rw [if_pos (hw S h0)]; rfl,h0⟩
 | d::ds,S,h0,hs=>by
  obtain ⟨ρ1,e1,S1,e2,hf,ht⟩:=hs d (by simp) S h0
  rw [List.map_cons]
  unfold loopC
  rw [if_pos (hw S h0),e1]
  dsimp only
  rw [bnd_ev,e2,rbnd_ok]
  cases hp:p d with
  | false =>
   obtain ⟨S',e3,h3⟩:=comp_goM e P hw p f ds (hf hp) fun d' hd=>hs d' (by simp [hd])
   exact ⟨S',by rw [if_neg Bool.false_ne_true,e3,List.filter_cons,hp]; rfl,h3⟩
  | true =>
   obtain ⟨S2,e4,h4⟩:=ht hp
   obtain ⟨S',e3,h3⟩:=comp_goM e P hw p f ds h4 fun d' hd=>hs d' (by simp [hd])
   exact ⟨S',by rw [if_pos rfl,bnd_ev,e4,rbnd_ok,bnd_ev,e3,rbnd_ok,List.filter_cons,hp]; rfl,h3⟩
theorem comp_mapM {α:Type} (e:α→D) {w:Watch}{t:Tgt}{c:C}{ρ0:Env1} (P:Store→Prop) (hw:∀ S,P S→okW w S) (f:α→D) (l:List α) {S:Store} (h0:P S)
  (hs:∀ a∈l,∀ S,P S→∃ ρ1,bindT t (e a) ρ0=some ρ1∧∃ S2,c ρ1 S=.ok (f a) S2∧P S2):CompR (loopC w t (fun _=>ret true) c ρ0 (l.map e) S) (l.map f) P:=by
 obtain ⟨S',e,h⟩:=comp_goM e (w:=w) (t:=t) (tc:=fun _=>ret true) (c:=c) (ρ0:=ρ0) P hw (fun _=>true) f l h0 (fun d hd S h=>by
  obtain ⟨ρ1,e1,S2,e2,h2⟩:=hs d hd S h
  exact ⟨ρ1,e1,S,rfl,(fun z=>by cases z),fun _=>⟨S2,e2,h2⟩⟩)
 exact ⟨S',by rw [e,List.filter_eq_self.mpr (by simp)],h⟩
theorem comp_pure {α:Type} (e:α→D) {w:Watch}{t:Tgt}{tc:CT}{c:C}{ρ0:Env1}{S:Store} (hw:okW w S) (p:α→Bool) (f:α→D) (l:List α)
  (hs:∀ a∈l,∃ ρ1,bindT t (e a) ρ0=some ρ1∧tc ρ1 S=.ok (p a) S∧(p a=true→c ρ1 S=.ok (f a) S)):loopC w t tc c ρ0 (l.map e) S=.ok ((l.filter p).map f) S:=by
 obtain ⟨S',e1,h⟩:=comp_goM e (w:=w) (t:=t) (tc:=tc) (c:=c) (ρ0:=ρ0) (fun S'=>S'=S) (fun S' z=>z▸hw) p f l rfl (fun a ha S' z=>by
  subst z
  obtain ⟨ρ1,q1,q2,q3⟩:=hs a ha
  exact ⟨ρ1,q1,S',q2,fun _=>rfl,fun z=>⟨S',q3 z,rfl⟩⟩)
 rw [e1,h]
theorem comp_pureM {α:Type} (e:α→D) {w:Watch}{t:Tgt}{c:C}{ρ0:Env1}{S:Store} (hw:okW w S) (f:α→D) (l:List α)
  (hs:∀ a∈l,∃ ρ1,bindT t (e a) ρ0=some ρ1∧c ρ1 S=.ok (f a) S):loopC w t (fun _=>ret true) c ρ0 (l.map e) S=.ok (l.map f) S:=by
 have:=comp_pure e (tc:=fun _=>ret true) (c:=c) hw (fun _=>true) f l (fun a ha=>by
  obtain ⟨ρ1,q1,q2⟩:=hs a ha
  exact ⟨ρ1,q1,rfl,fun _=>q2⟩)
 rw [this,List.filter_eq_self.mpr (by simp)]
@[simp] theorem bindT_one (d:D) (ρ:Env1):bindT .one d ρ=some (ρ.set 0 (some d)):=rfl
@[simp] theorem bindT_two (x y:D) (ρ:Env1):bindT (.many 2) (.tup [x,y]) ρ=some ((ρ.set 0 (some x)).set 1 (some y)):=rfl
@[simp] theorem stE_ev (k:Nat) (js:List Nat) (ρ:Env1):stE k js ρ=List.replicate k none++js.map fun j=>(ρ[j]?).getD none:=rfl
theorem runF_ev {np nN:Nat}{b:CS}{ds:List D}{S:Store} (h:ds.length=np):runF np nN b ds S=match b (startE nN ds) S with
 | .nx _ S'=>.ok .non S'
 | .rt d S'=>.ok d S'
 | .er c S'=>.er c S'
 | _=>.bad:=by
 unfold runF
 rw [if_pos h]
 all_goals (cases b (startE nN ds) S <;> rfl)
theorem run_rt {np nN:Nat}{b:CS}{ds:List D}{S S':Store}{d:D} (h:ds.length=np) (e:b (startE nN ds) S=.rt d S'):runF np nN b ds S=.ok d S':=by rw [runF_ev h,e]
open PySem
noncomputable def plain:Nat→D→Bool
 | 0,_=>false
 | n+1,d=>match d with
  | .int _=>true
  | .non=>true
  | .str x=>PyData.strOk x
  | .tup xs=>xs.all (plain n)
  | _=>false
noncomputable def pdat:Nat→D→PyData
 | 0,_=>.none
 | n+1,d=>match d with
  | .int i=>.int i
  | .str x=>.str x
  | .tup xs=>.tuple (xs.map (pdat n))
  | _=>.none
theorem mapM_some {α β:Type}{f:α→Option β}{g:α→β}{l:List α} (h:∀ x∈l,f x=some (g x)):l.mapM f=some (l.map g):=by
 induction l with
 | nil=>rfl
 | cons a r ih =>
  rw [List.mapM_cons,h a (by simp),ih fun x hx=>h x (by simp [hx])]
  rfl
theorem snap_plain:∀ {n:Nat}{d:D} (S:Store),plain n d=true→snap n S d=some (pdat n d)
 | 0,d,S,h=>by cases h
 | n+1,d,S,h=>by
  unfold plain at h
  unfold snap pdat
  cases d with
  | int i=>rfl
  | non=>rfl
  | str x=>dsimp only at h ⊢; rw [if_pos h]
  | tup xs =>
   dsimp only at h ⊢
   rw [mapM_some (g:=pdat n) fun x hx=>snap_plain S (List.all_eq_true.mp h x hx)]
   rfl
  | _=>cases h
theorem eqvAll_iff {n:Nat} (ih:∀ d e,plain n d=true→plain n e=true→(PyData.eqv (pdat n d) (pdat n e)=true↔d=e)):∀ (xs ys:List D),xs.all (plain n)=true→ys.all (plain n)=true→(PyData.eqvAll (xs.map (pdat n)) (ys.map (pdat n))=true↔xs=ys)
 | [],[],_,_=>by simp [PyData.eqvAll]
 | [],y::ys,_,_=>by simp [PyData.eqvAll]
 | x::xs,[],_,_=>by simp [PyData.eqvAll]
 | x::xs,y::ys,h1,h2=>by
  rw [List.all_cons,Bool.and_eq_true] at h1 h2
  rw [List.map_cons,List.map_cons]
  show (PyData.eqv (pdat n x) (pdat n y)&&PyData.eqvAll (xs.map (pdat n)) (ys.map (pdat n)))=true↔_
  rw [Bool.and_eq_true,ih x y h1.1 h2.1,eqvAll_iff ih xs ys h1.2 h2.2,List.cons.injEq]
theorem eqv_plain:∀ (n:Nat) (d e:D),plain n d=true→plain n e=true→(PyData.eqv (pdat n d) (pdat n e)=true↔d=e)
 | 0,d,e,h,_=>by cases h
 | n+1,d,e,h1,h2=>by
  unfold plain at h1 h2
  unfold pdat
  cases d with
  | int i =>
   cases e with
   | int j=>simp [PyData.eqv]
   | non=>simp [PyData.eqv]
   | str y=>simp [PyData.eqv]
   | tup ys=>simp [PyData.eqv]
   | _=>cases h2
  | non =>
   cases e with
   | int j=>simp [PyData.eqv]
   | non=>simp [PyData.eqv]
   | str y=>simp [PyData.eqv]
   | tup ys=>simp [PyData.eqv]
   | _=>cases h2
  | str x =>
   cases e with
   | int j=>simp [PyData.eqv]
   | non=>simp [PyData.eqv]
   | str y=>simp [PyData.eqv]
   | tup ys=>simp [PyData.eqv]
   | _=>cases h2
  | tup xs =>
   cases e with
   | int j=>simp [PyData.eqv]
   | non=>simp [PyData.eqv]
   | str y=>simp [PyData.eqv]
   | tup ys =>
    show PyData.eqvAll (xs.map (pdat n)) (ys.map (pdat n))=true↔_
    rw [eqvAll_iff (eqv_plain n) xs ys h1 h2]
    simp
   | _=>cases h2
  | _=>cases h1
noncomputable def eqB {α:Type} (x y:α):Bool:=@decide (x=y) (Classical.propDecidable _)
theorem eqB_iff {α:Type}{x y:α}:eqB x y=true↔x=y:=@decide_eq_true_iff _ (Classical.propDecidable _)
@[simp] theorem eqB_self {α:Type} (x:α):eqB x x=true:=eqB_iff.mpr rfl
theorem bool_ext {a b:Bool} (h:a=true↔b=true):a=b:=by cases a <;> cases b <;> simp at h ⊢
theorem oNe_plain {x y:D} (S:Store) (h1:plain 40 x=true) (h2:plain 40 y=true):oNe x y S=.ok (.bl (!eqB x y)) S:=by
 unfold oNe
 split
 ·rename_i a b
  rw [bool_ext (a:=decide (a=b)) (b:=eqB (D.str a) (D.str b)) (by rw [eqB_iff,decide_eq_true_iff]; exact ⟨fun q=>by rw [q],fun q=>by injection q⟩)]
 ·rw [snap_plain S h1,snap_plain S h2]
  dsimp only
  rw [bool_ext ((eqv_plain 40 x y h1 h2).trans eqB_iff.symm)]
theorem snap_lst {S:Store}{k:Nat}{xs:List D} (h:lstAt S k=some xs) (hp:xs.all (plain 39)=true):snap 40 S (.lst k)=some (.list (xs.map (pdat 39))):=by
 show (match lstAt S k with | some xs=>(xs.mapM (snap 39 S)).map PyData.list | none=>none)=_
 rw [h]
 dsimp only
 rw [mapM_some (g:=pdat 39) fun x hx=>snap_plain S (List.all_eq_true.mp hp x hx)]
 rfl
theorem oEq_lst {S:Store}{a b:Nat}{xs ys:List D} (h1:lstAt S a=some xs) (h2:lstAt S b=some ys) (p1:xs.all (plain 39)=true) (p2:ys.all (plain 39)=true):oEq (.lst a) (.lst b) S=.ok (.bl (eqB xs ys)) S:=by
 unfold oEq
 dsimp only
 rw [snap_lst h1 p1,snap_lst h2 p2]
 dsimp only
 rw [bool_ext ((show PyData.eqv (.list (xs.map (pdat 39))) (.list (ys.map (pdat 39)))=true↔xs=ys from eqvAll_iff (eqv_plain 39) xs ys p1 p2).trans eqB_iff.symm)]
theorem plain_int {n:Nat} (h:0<n) (i:Int):plain n (.int i)=true:=by
 cases n with
 | zero=>cases h
 | succ n=>rfl
theorem plain_tup {n:Nat}{xs:List D} (h:∀ x∈xs,plain n x=true):plain (n+1) (.tup xs)=true:=List.all_eq_true.mpr h
theorem inst_tup (xs:List D) (S:Store):fInst [.tup xs,.ty "tuple"] S=.ok (.bl true) S:=rfl
@[simp] theorem inst_int_bool (i:Int) (S:Store):fInst [.int i,.ty "bool"] S=.ok (.bl false) S:=rfl
@[simp] theorem inst_int_int (i:Int) (S:Store):fInst [.int i,.ty "int"] S=.ok (.bl true) S:=rfl
@[simp] theorem inst_int_tuple (i:Int) (S:Store):fInst [.int i,.ty "tuple"] S=.ok (.bl false) S:=rfl
@[simp] theorem inst_int_list (i:Int) (S:Store):fInst [.int i,.ty "list"] S=.ok (.bl false) S:=rfl
@[simp] theorem inst_bool_bool (b:Bool) (S:Store):fInst [.bl b,.ty "bool"] S=.ok (.bl true) S:=rfl
@[simp] theorem inst_bool_int (b:Bool) (S:Store):fInst [.bl b,.ty "int"] S=.ok (.bl true) S:=rfl
@[simp] theorem inst_bool_tuple (b:Bool) (S:Store):fInst [.bl b,.ty "tuple"] S=.ok (.bl false) S:=rfl
@[simp] theorem inst_bool_list (b:Bool) (S:Store):fInst [.bl b,.ty "list"] S=.ok (.bl false) S:=rfl
@[simp] theorem inst_NoneType_bool  (S:Store):fInst [.non,.ty "bool"] S=.ok (.bl false) S:=rfl
@[simp] theorem inst_NoneType_int  (S:Store):fInst [.non,.ty "int"] S=.ok (.bl false) S:=rfl
@[simp] theorem inst_NoneType_tuple  (S:Store):fInst [.non,.ty "tuple"] S=.ok (.bl false) S:=rfl
@[simp] theorem inst_NoneType_list  (S:Store):fInst [.non,.ty "list"] S=.ok (.bl false) S:=rfl
@[simp] theorem inst_str_bool (x:Str) (S:Store):fInst [.str x,.ty "bool"] S=.ok (.bl false) S:=rfl
@[simp] theorem inst_str_int (x:Str) (S:Store):fInst [.str x,.ty "int"] S=.ok (.bl false) S:=rfl
@[simp] theorem inst_str_tuple (x:Str) (S:Store):fInst [.str x,.ty "tuple"] S=.ok (.bl false) S:=rfl
@[simp] theorem inst_str_list (x:Str) (S:Store):fInst [.str x,.ty "list"] S=.ok (.bl false) S:=rfl
@[simp] theorem inst_tuple_bool (xs:List D) (S:Store):fInst [.tup xs,.ty "bool"] S=.ok (.bl false) S:=rfl
@[simp] theorem inst_tuple_int (xs:List D) (S:Store):fInst [.tup xs,.ty "int"] S=.ok (.bl false) S:=rfl
@[simp] theorem inst_tuple_tuple (xs:List D) (S:Store):fInst [.tup xs,.ty "tuple"] S=.ok (.bl true) S:=rfl
@[simp] theorem inst_tuple_list (xs:List D) (S:Store):fInst [.tup xs,.ty "list"] S=.ok (.bl false) S:=rfl
open PySem
theorem cutD_drop (xs:List D) {k:Int} (h0:0≤k):cutD xs (some k) none=xs.drop k.toNat:=by
 unfold cutD
 rw [show k=((k.toNat:Nat):Int) by omega,HT.sIx_nat,HT.sIx_none,Int.toNat_natCast]
 by_cases h:k.toNat≤xs.length
 ·rw [Nat.min_eq_left h,List.take_of_length_le (by simp)]
 ·rw [Nat.min_eq_right (by omega),Nat.sub_self,List.take_zero,List.drop_of_length_le (by omega)]
end L2
namespace My
open PySem L2
noncomputable def b_is_whole (cl:CLL):CS :=
 (sSeq (sRet (cAndV (cApp fInst (cArgs [(cVar 0),(cCon (.ty "int"))])) (cNotV (cApp fInst (cArgs [(cVar 0),(cCon (.ty "bool"))])))))
  sPass)
def Hs_is_whole (cl:Nat→CLL):Prop:=∀ n,cl (n+1) "is_whole"=runF 1 1 (b_is_whole (cl n))
noncomputable def b_is_bit (cl:CLL):CS :=
 (sSeq (sRet (cAndV (cApp (cl "is_whole") (cArgs [(cVar 0)])) (cChain (oCmp fun i j=>decide (i≤j)) (oCmp fun i j=>decide (i≤j)) (cCon (.int 0)) (cVar 0) (cCon (.int 1)))))
  sPass)
def Hs_is_bit (cl:Nat→CLL):Prop:=∀ n,cl (n+1) "is_bit"=runF 1 1 (b_is_bit (cl n))
noncomputable def is_contact_e1 (cl:CLL):C :=
 (cApp (cl "is_whole") (cArgs [(cVar 0)]))
noncomputable def b_is_contact (cl:CLL):CS :=
 (sSeq (sIf (cOrT (cNotT (cTru (cApp fInst (cArgs [(cVar 2),(cCon (.ty "tuple"))])))) (cBool (cBin oNe (cApp fLen (cArgs [(cVar 2)])) (cCon (.int 4))))) (sSeq (sRet (cCon (.bl false)))
  sPass) sPass)
  (sSeq (sIf (cNotT (cTru (cApp (fBools fun bs=>bs.all id) (cArgs [(cComp (iSeq (cVar 2)) 1 [] .one (fun _=>ret true) (is_contact_e1 cl))])))) (sSeq (sRet (cCon (.bl false)))
  sPass) sPass)
  (sSeq (sIf (cNotT (cChain3 (oCmp fun i j=>decide (i≤j)) oLt oLt (cCon (.int 0)) (cBin oIx (cVar 2) (cCon (.int 0))) (cBin oIx (cVar 2) (cCon (.int 1))) (cVar 1))) (sSeq (sRet (cCon (.bl false)))
  sPass) sPass)
  (sSeq (sRet (cAndV (cChain (oCmp fun i j=>decide (i≤j)) oLt (cCon (.int 0)) (cBin oIx (cVar 2) (cCon (.int 2))) (cVar 0)) (cApp (cl "is_bit") (cArgs [(cBin oIx (cVar 2) (cCon (.int 3)))]))))
  sPass))))
def Hs_is_contact (cl:Nat→CLL):Prop:=∀ n,cl (n+1) "is_contact"=runF 3 3 (b_is_contact (cl n))
noncomputable def is_net_e1 (cl:CLL):C :=
 (cApp (cl "is_contact") (cArgs [(cVar 1),(cVar 2),(cVar 0)]))
noncomputable def b_is_net (cl:CLL):CS :=
 (sSeq (sIf (cOrT (cNotT (cTru (cApp fInst (cArgs [(cVar 0),(cCon (.ty "tuple"))])))) (cBool (cBin oNe (cApp fLen (cArgs [(cVar 0)])) (cCon (.int 3))))) (sSeq (sRet (cCon (.bl false)))
  sPass) sPass)
  (sSeq (sAsg (cBin oIx (cVar 0) (cCon (.int 0))) (gN 1))
  (sSeq (sAsg (cBin oIx (cVar 0) (cCon (.int 1))) (gN 2))
  (sSeq (sAsg (cBin oIx (cVar 0) (cCon (.int 2))) (gN 3))
  (sSeq (sIf (cOrT (cNotT (cTru (cApp (cl "is_whole") (cArgs [(cVar 1)])))) (cNotT (cBool (cChain (oCmp fun i j=>decide (i≤j)) (oCmp fun i j=>decide (i≤j)) (cCon (.int 1)) (cVar 1) (cCon (.int 4)))))) (sSeq (sRet (cCon (.bl false)))
  sPass) sPass)
  (sSeq (sIf (cOrT (cNotT (cTru (cApp (cl "is_whole") (cArgs [(cVar 2)])))) (cNotT (cBool (cChain (oCmp fun i j=>decide (i≤j)) (oCmp fun i j=>decide (i≤j)) (cCon (.int 2)) (cVar 2) (cCon (.int 7)))))) (sSeq (sRet (cCon (.bl false)))
  sPass) sPass)
  (sSeq (sIf (cOrT (cNotT (cTru (cApp fInst (cArgs [(cVar 3),(cCon (.ty "tuple"))])))) (cBool (cBin (oCmp fun i j=>decide (j<i)) (cApp fLen (cArgs [(cVar 3)])) (cCon (.int 16))))) (sSeq (sRet (cCon (.bl false)))
  sPass) sPass)
  (sSeq (sRet (cApp (fBools fun bs=>bs.all id) (cArgs [(cComp (iSeq (cVar 3)) 1 [1,2] .one (fun _=>ret true) (is_net_e1 cl))])))
  sPass))))))))
def Hs_is_net (cl:Nat→CLL):Prop:=∀ n,cl (n+1) "is_net"=runF 1 4 (b_is_net (cl n))
noncomputable def b_contact_text (cl:CLL):CS :=
 (sSeq (sAsg (cBin oIx (cVar 0) (cCon (.int 0))) (gN 1))
  (sSeq (sAsg (cBin oIx (cVar 0) (cCon (.int 1))) (gN 2))
  (sSeq (sAsg (cBin oIx (cVar 0) (cCon (.int 2))) (gN 3))
  (sSeq (sAsg (cIf (cBool (cBin oEq (cBin oIx (cVar 0) (cCon (.int 3))) (cCon (.int 1)))) (cCon (.str (Str.ofString "+"))) (cCon (.str (Str.ofString "-")))) (gN 4))
  (sSeq (sRet (cJS [(cFmt (cVar 1)),(cCon (.str (Str.ofString "-"))),(cFmt (cVar 2)),(cCon (.str (Str.ofString "/"))),(cFmt (cVar 3)),(cFmt (cVar 4))] Str.empty))
  sPass)))))
def Hs_contact_text (cl:Nat→CLL):Prop:=∀ n,cl (n+1) "contact_text"=runF 1 5 (b_contact_text (cl n))
noncomputable def net_text_e1 (cl:CLL):C :=
 (cApp (cl "contact_text") (cArgs [(cVar 0)]))
noncomputable def b_net_text (cl:CLL):CS :=
 (sSeq (sAsg (cBin oIx (cVar 0) (cCon (.int 0))) (gN 1))
  (sSeq (sAsg (cBin oIx (cVar 0) (cCon (.int 1))) (gN 2))
  (sSeq (sRet (cMeth "str" mJoin (cCon (.str (Str.ofString " "))) (cArgs [(cBin oAdd (cLst (cArgs [(cJS [(cFmt (cVar 1)),(cCon (.str (Str.ofString " "))),(cFmt (cVar 2)),(cCon (.str (Str.ofString ":")))] Str.empty)])) (cComp (iSeq (cBin oIx (cVar 0) (cCon (.int 2)))) 1 [] .one (fun _=>ret true) (net_text_e1 cl)))])))
  sPass)))
def Hs_net_text (cl:Nat→CLL):Prop:=∀ n,cl (n+1) "net_text"=runF 1 3 (b_net_text (cl n))
noncomputable def bits_text_e1 (cl:CLL):C :=
 (cApp fStr (cArgs [(cVar 0)]))
noncomputable def b_bits_text (cl:CLL):CS :=
 (sSeq (sRet (cMeth "str" mJoin (cCon (.str (Str.ofString ""))) (cArgs [(cComp (iSeq (cVar 0)) 1 [] .one (fun _=>ret true) (bits_text_e1 cl))])))
  sPass)
def Hs_bits_text (cl:Nat→CLL):Prop:=∀ n,cl (n+1) "bits_text"=runF 1 1 (b_bits_text (cl n))
noncomputable def b_figure (cl:CLL):CS :=
 (sSeq (sRet (cMeth "str" mFind (cCon (.str (Str.ofString "0123456789"))) (cArgs [(cVar 0)])))
  sPass)
def Hs_figure (cl:Nat→CLL):Prop:=∀ n,cl (n+1) "figure"=runF 1 1 (b_figure (cl n))
noncomputable def has_lengths_of_net_e1 (cl:CLL):C :=
 (cBin oEq (cApp fLen (cArgs [(cVar 0)])) (cCon (.int 6)))
noncomputable def b_has_lengths_of_net (cl:CLL):CS :=
 (sSeq (sIf (cOrT (cBool (cBin oLt (cApp fLen (cArgs [(cVar 0)])) (cCon (.int 2)))) (cOrT (cBool (cBin oNe (cApp fLen (cArgs [(cBin oIx (cVar 0) (cCon (.int 0)))])) (cCon (.int 1)))) (cBool (cBin oNe (cApp fLen (cArgs [(cBin oIx (cVar 0) (cCon (.int 1)))])) (cCon (.int 2)))))) (sSeq (sRet (cCon (.bl false)))
  sPass) sPass)
  (sSeq (sRet (cApp (fBools fun bs=>bs.all id) (cArgs [(cComp (iSeq (cSl oSl (cVar 0) (cPart (cCon (.int 2))) cNoPart)) 1 [] .one (fun _=>ret true) (has_lengths_of_net_e1 cl))])))
  sPass))
def Hs_has_lengths_of_net (cl:Nat→CLL):Prop:=∀ n,cl (n+1) "has_lengths_of_net"=runF 1 1 (b_has_lengths_of_net (cl n))
noncomputable def b_contact_read (cl:CLL):CS :=
 (sSeq (sRet (cTup (cArgs [(cApp (cl "figure") (cArgs [(cBin oIx (cVar 0) (cCon (.int 0)))])),(cApp (cl "figure") (cArgs [(cBin oIx (cVar 0) (cCon (.int 2)))])),(cApp (cl "figure") (cArgs [(cBin oIx (cVar 0) (cCon (.int 4)))])),(cIf (cBool (cBin oEq (cBin oIx (cVar 0) (cCon (.int 5))) (cCon (.str (Str.ofString "+"))))) (cCon (.int 1)) (cCon (.int 0)))])))
  sPass)
def Hs_contact_read (cl:Nat→CLL):Prop:=∀ n,cl (n+1) "contact_read"=runF 1 1 (b_contact_read (cl n))
noncomputable def net_read_e1 (cl:CLL):C :=
 (cApp (cl "contact_read") (cArgs [(cVar 0)]))
noncomputable def b_net_read (cl:CLL):CS :=
 (sSeq (sIf (cNotT (cTru (cApp fInst (cArgs [(cVar 0),(cCon (.ty "str"))])))) (sSeq sBad
  sPass) sPass)
  (sSeq (sAsg (cMeth "str" mSplit (cVar 0) (cArgs [(cCon (.str (Str.ofString " ")))])) (gN 1))
  (sSeq (sIf (cNotT (cTru (cApp (cl "has_lengths_of_net") (cArgs [(cVar 1)])))) (sSeq sBad
  sPass) sPass)
  (sSeq (sAsg (cTup (cArgs [(cApp (cl "figure") (cArgs [(cBin oIx (cVar 1) (cCon (.int 0)))])),(cApp (cl "figure") (cArgs [(cBin oIx (cBin oIx (cVar 1) (cCon (.int 1))) (cCon (.int 0)))])),(cApp fTuple (cArgs [(cComp (iSeq (cSl oSl (cVar 1) (cPart (cCon (.int 2))) cNoPart)) 1 [] .one (fun _=>ret true) (net_read_e1 cl))]))])) (gN 2))
  (sSeq (sIf (cOrT (cNotT (cTru (cApp (cl "is_net") (cArgs [(cVar 2)])))) (cBool (cBin oNe (cApp (cl "net_text") (cArgs [(cVar 2)])) (cVar 0)))) (sSeq sBad
  sPass) sPass)
  (sSeq (sRet (cVar 2))
  sPass))))))
def Hs_net_read (cl:Nat→CLL):Prop:=∀ n,cl (n+1) "net_read"=runF 1 3 (b_net_read (cl n))
noncomputable def b_law_cell_at (cl:CLL):CS :=
 (sSeq (sIf (cBool (cBin oLt (cVar 1) (cApp fLen (cArgs [(cVar 0)])))) (sSeq (sRet (cBin oIx (cVar 0) (cVar 1)))
  sPass) sPass)
  (sSeq (sRet (cCon (.int 0)))
  sPass))
def Hs_law_cell_at (cl:Nat→CLL):Prop:=∀ n,cl (n+1) "_law_cell_at"=runF 2 2 (b_law_cell_at (cl n))
noncomputable def b_law_state (cl:CLL):CS :=
 (sSeq (sAsg (cApp (cl "_law_cell_at") (cArgs [(cVar 0),(cVar 1)])) (gN 2))
  (sSeq (sIf (cBool (cBin (oCmp fun i j=>decide (j≤i)) (cVar 2) (cBin oPow (cCon (.int 10)) (cCon (.int 18))))) (sSeq (sRet (cLst (cArgs [(cBin (oInt fun i j=>i - j) (cVar 2) (cBin oPow (cCon (.int 10)) (cCon (.int 18)))),(cCon (.bl true))])))
  sPass) sPass)
  (sSeq (sRet (cLst (cArgs [(cBin oMod (cVar 2) (cCon (.int 2147483647))),(cCon (.bl false))])))
  sPass)))
def Hs_law_state (cl:Nat→CLL):Prop:=∀ n,cl (n+1) "_law_state"=runF 2 3 (b_law_state (cl n))
noncomputable def b_law_take (cl:CLL):CS :=
 (sSeq (sIf (cTru (cBin oIx (cVar 0) (cCon (.int 1)))) (sSeq (sAsg (cBin oMod (cBin oIx (cVar 0) (cCon (.int 0))) (cVar 1)) (gN 2))
  (sSeq (sAsg (cBin oDiv (cBin oIx (cVar 0) (cCon (.int 0))) (cVar 1)) (gS (cVar 0) (cCon (.int 0))))
  (sSeq (sRet (cVar 2))
  sPass))) sPass)
  (sSeq (sAsg (cBin oMod (cBin oAdd (cBin oMul (cBin oIx (cVar 0) (cCon (.int 0))) (cCon (.int 48271))) (cCon (.int 29))) (cCon (.int 2147483647))) (gS (cVar 0) (cCon (.int 0))))
  (sSeq (sAsg (cBin oMod (cBin oAdd (cBin oAdd (cBin oMul (cBin oIx (cVar 0) (cCon (.int 0))) (cBin oIx (cVar 0) (cCon (.int 0)))) (cBin oMul (cCon (.int 39373)) (cBin oIx (cVar 0) (cCon (.int 0))))) (cCon (.int 7))) (cCon (.int 2147483629))) (gN 3))
  (sSeq (sAsg (cBin oMod (cBin oAdd (cBin oMul (cVar 3) (cVar 3)) (cBin oMul (cCon (.int 16807)) (cVar 3))) (cCon (.int 2147483587))) (gN 3))
  (sSeq (sRet (cBin oMod (cBin oDiv (cVar 3) (cCon (.int 8))) (cVar 1)))
  sPass)))))
def Hs_law_take (cl:Nat→CLL):Prop:=∀ n,cl (n+1) "_law_take"=runF 2 4 (b_law_take (cl n))
noncomputable def b_law_ends (cl:CLL):CS :=
 (sSeq (sAsg (cBin oAdd (cBin oAdd (cLst (cArgs [(cCon (.int 0))])) (cApp fListR (cArgs [(cCon (.int 2)),(cVar 1)]))) (cLst (cArgs [(cCon (.int 1))]))) (gN 2))
  (sSeq (sAsg (cApp (cl "_law_take") (cArgs [(cVar 0),(cBin (oInt fun i j=>i - j) (cVar 1) (cCon (.int 1)))])) (gN 3))
  (sSeq (sAsg (cBin oAdd (cVar 3) (cCon (.int 1))) (gN 4))
  (sSeq (sIf (cBool (cBin oEq (cApp (cl "_law_take") (cArgs [(cVar 0),(cCon (.int 3))])) (cCon (.int 0)))) (sSeq (sAsg (cBin oAdd (cBin oAdd (cVar 3) (cCon (.int 1))) (cApp (cl "_law_take") (cArgs [(cVar 0),(cBin (oInt fun i j=>i - j) (cBin (oInt fun i j=>i - j) (cVar 1) (cCon (.int 1))) (cVar 3))]))) (gN 4))
  sPass) sPass)
  (sSeq (sRet (cTup (cArgs [(cApp fMin (cArgs [(cBin oIx (cVar 2) (cVar 3)),(cBin oIx (cVar 2) (cVar 4))])),(cApp fMax (cArgs [(cBin oIx (cVar 2) (cVar 3)),(cBin oIx (cVar 2) (cVar 4))]))])))
  sPass)))))
def Hs_law_ends (cl:Nat→CLL):Prop:=∀ n,cl (n+1) "_law_ends"=runF 2 5 (b_law_ends (cl n))
noncomputable def law_net_l1 (cl:CLL):CS :=
 (sSeq (sExpr (cMeth "list" (mList gInsert) (cVar 11) (cArgs [(cApp (cl "_law_take") (cArgs [(cVar 0),(cBin oAdd (cApp fLen (cArgs [(cVar 11)])) (cCon (.int 1)))])),(cVar 12)])))
  sPass)
noncomputable def law_net_l2 (cl:CLL):CS :=
 (sSeq (sExpr (cMeth "list" (mList gAppend) (cVar 6) (cArgs [(cBin oAdd (cApp (cl "_law_ends") (cArgs [(cVar 0),(cVar 5)])) (cTup (cArgs [(cApp (cl "_law_take") (cArgs [(cVar 0),(cVar 4)])),(cApp (cl "_law_take") (cArgs [(cVar 0),(cCon (.int 2))]))])))])))
  sPass)
noncomputable def law_net_l3 (cl:CLL):CS :=
 (sSeq (sExpr (cMeth "list" (mList gAppend) (cVar 6) (cArgs [(cTup (cArgs [(cApp fMin (cArgs [(cVar 8),(cVar 9)])),(cApp fMax (cArgs [(cVar 8),(cVar 9)])),(cApp (cl "_law_take") (cArgs [(cVar 0),(cVar 4)])),(cApp (cl "_law_take") (cArgs [(cVar 0),(cCon (.int 2))]))]))])))
  sPass)
noncomputable def b_law_net (cl:CLL):CS :=
 (sSeq (sAsg (cBin oAdd (cCon (.int 1)) (cApp (cl "_law_take") (cArgs [(cVar 0),(cVar 1)]))) (gN 4))
  (sSeq (sAsg (cBin oAdd (cCon (.int 2)) (cApp (cl "_law_take") (cArgs [(cVar 0),(cBin (oInt fun i j=>i - j) (cVar 2) (cCon (.int 1)))]))) (gN 5))
  (sSeq (sAsg (cLst (cArgs [])) (gN 6))
  (sSeq (sAsg (cBin oAdd (cBin oAdd (cLst (cArgs [(cCon (.int 0))])) (cApp fListR (cArgs [(cCon (.int 2)),(cVar 5)]))) (cLst (cArgs [(cCon (.int 1))]))) (gN 7))
  (sSeq (sIf (cAndT (cBool (cBin oEq (cApp (cl "_law_take") (cArgs [(cVar 0),(cCon (.int 2))])) (cCon (.int 0)))) (cBool (cBin (oCmp fun i j=>decide (i≤j)) (cBin (oInt fun i j=>i - j) (cVar 5) (cCon (.int 1))) (cVar 3)))) (sSeq (sFor (iZipL (cArgs [(cVar 7),(cSl oSl (cVar 7) (cPart (cCon (.int 1))) cNoPart)])) (gT [(gN 8),(gN 9)]) (law_net_l3 cl))
  sPass) sPass)
  (sSeq (sFor (iRange1 (cArgs [(cApp (cl "_law_take") (cArgs [(cVar 0),(cBin oAdd (cBin (oInt fun i j=>i - j) (cVar 3) (cApp fLen (cArgs [(cVar 6)]))) (cCon (.int 1)))]))])) (gN 10) (law_net_l2 cl))
  (sSeq (sAsg (cLst (cArgs [])) (gN 11))
  (sSeq (sFor (iSeq (cVar 6)) (gN 12) (law_net_l1 cl))
  (sSeq (sRet (cTup (cArgs [(cVar 4),(cVar 5),(cApp fTuple (cArgs [(cVar 11)]))])))
  sPass)))))))))
def Hs_law_net (cl:Nat→CLL):Prop:=∀ n,cl (n+1) "_law_net"=runF 4 13 (b_law_net (cl n))
noncomputable def law_settings_e1 (cl:CLL):C :=
 (cBin (oInt Builtin.bitAnd) (cBin oShr (cVar 1) (cBin (oInt fun i j=>i - j) (cBin (oInt fun i j=>i - j) (cVar 2) (cCon (.int 1))) (cVar 0))) (cCon (.int 1)))
noncomputable def law_settings_l1 (cl:CLL):CS :=
 (sSeq (sExpr (cMeth "list" (mList gAppend) (cVar 1) (cArgs [(cApp fTuple (cArgs [(cComp (iRange1 (cArgs [(cVar 0)])) 1 [2,0] .one (fun _=>ret true) (law_settings_e1 cl))]))])))
  sPass)
noncomputable def b_law_settings (cl:CLL):CS :=
 (sSeq (sAsg (cLst (cArgs [])) (gN 1))
  (sSeq (sFor (iRange1 (cArgs [(cBin oShl (cCon (.int 1)) (cVar 0))])) (gN 2) (law_settings_l1 cl))
  (sSeq (sRet (cVar 1))
  sPass)))
def Hs_law_settings (cl:Nat→CLL):Prop:=∀ n,cl (n+1) "_law_settings"=runF 1 3 (b_law_settings (cl n))
noncomputable def law_shut_t1 (cl:CLL):CT :=
 (cBool (cBin oEq (cBin oIx (cVar 2) (cBin oIx (cVar 1) (cCon (.int 2)))) (cBin oIx (cVar 1) (cCon (.int 3)))))
noncomputable def law_shut_e1 (cl:CLL):C :=
 (cVar 0)
noncomputable def b_law_shut (cl:CLL):CS :=
 (sSeq (sRet (cComp (iEnumT (cArgs [(cBin oIx (cVar 0) (cCon (.int 2)))])) 2 [1] (.many 2) (law_shut_t1 cl) (law_shut_e1 cl)))
  sPass)
def Hs_law_shut (cl:Nat→CLL):Prop:=∀ n,cl (n+1) "_law_shut"=runF 2 2 (b_law_shut (cl n))
noncomputable def law_marks_l2 (cl:CLL):CS :=
 (sSeq (sAsg (cSl oSl (cBin oIx (cBin oIx (cVar 0) (cCon (.int 2))) (cVar 4)) cNoPart (cPart (cCon (.int 2)))) (gT [(gN 5),(gN 6)]))
  (sSeq (sAsg (cApp fMin (cArgs [(cBin oIx (cVar 2) (cVar 5)),(cBin oIx (cVar 2) (cVar 6))])) (gN 7))
  (sSeq (sAsg (cVar 7) (gS (cVar 2) (cVar 5)))
  (sSeq (sAsg (cVar 7) (gS (cVar 2) (cVar 6)))
  sPass))))
noncomputable def law_marks_l1 (cl:CLL):CS :=
 (sSeq (sFor (iSeq (cVar 1)) (gN 4) (law_marks_l2 cl))
  sPass)
noncomputable def b_law_marks (cl:CLL):CS :=
 (sSeq (sAsg (cApp fListR (cArgs [(cBin oIx (cVar 0) (cCon (.int 1)))])) (gN 2))
  (sSeq (sFor (iRange1 (cArgs [(cBin oIx (cVar 0) (cCon (.int 1)))])) (gN 3) (law_marks_l1 cl))
  (sSeq (sRet (cVar 2))
  sPass)))
def Hs_law_marks (cl:Nat→CLL):Prop:=∀ n,cl (n+1) "_law_marks"=runF 2 8 (b_law_marks (cl n))
noncomputable def b_law_lets (cl:CLL):CS :=
 (sSeq (sRet (cBin oEq (cBin oIx (cApp (cl "_law_marks") (cArgs [(cVar 0),(cApp (cl "_law_shut") (cArgs [(cVar 0),(cVar 1)]))])) (cCon (.int 1))) (cCon (.int 0))))
  sPass)
def Hs_law_lets (cl:Nat→CLL):Prop:=∀ n,cl (n+1) "_law_lets"=runF 2 2 (b_law_lets (cl n))
noncomputable def law_function_e1 (cl:CLL):C :=
 (cApp fInt (cArgs [(cApp (cl "_law_lets") (cArgs [(cVar 1),(cVar 0)]))]))
noncomputable def b_law_function (cl:CLL):CS :=
 (sSeq (sRet (cApp fTuple (cArgs [(cComp (iSeq (cApp (cl "_law_settings") (cArgs [(cBin oIx (cVar 0) (cCon (.int 0)))]))) 1 [0] .one (fun _=>ret true) (law_function_e1 cl))])))
  sPass)
def Hs_law_function (cl:Nat→CLL):Prop:=∀ n,cl (n+1) "_law_function"=runF 1 1 (b_law_function (cl n))
noncomputable def law_net_text_l1 (cl:CLL):CS :=
 (sSeq (sExpr (cMeth "list" (mList gAppend) (cVar 1) (cArgs [(cBin oAdd (cBin oAdd (cBin oAdd (cBin oAdd (cBin oAdd (cApp fStr (cArgs [(cVar 2)])) (cCon (.str (Str.ofString "-")))) (cApp fStr (cArgs [(cVar 3)]))) (cCon (.str (Str.ofString "/")))) (cApp fStr (cArgs [(cVar 4)]))) (cBin oIx (cLst (cArgs [(cCon (.str (Str.ofString "-"))),(cCon (.str (Str.ofString "+")))])) (cVar 5)))])))
  sPass)
noncomputable def b_law_net_text (cl:CLL):CS :=
 (sSeq (sAsg (cLst (cArgs [(cApp fStr (cArgs [(cBin oIx (cVar 0) (cCon (.int 0)))])),(cBin oAdd (cApp fStr (cArgs [(cBin oIx (cVar 0) (cCon (.int 1)))])) (cCon (.str (Str.ofString ":"))))])) (gN 1))
  (sSeq (sFor (iSeq (cBin oIx (cVar 0) (cCon (.int 2)))) (gT [(gN 2),(gN 3),(gN 4),(gN 5)]) (law_net_text_l1 cl))
  (sSeq (sRet (cMeth "str" mJoin (cCon (.str (Str.ofString " "))) (cArgs [(cVar 1)])))
  sPass)))
def Hs_law_net_text (cl:Nat→CLL):Prop:=∀ n,cl (n+1) "_law_net_text"=runF 1 6 (b_law_net_text (cl n))
noncomputable def law_bits_text_e1 (cl:CLL):C :=
 (cApp fStr (cArgs [(cVar 0)]))
noncomputable def b_law_bits_text (cl:CLL):CS :=
 (sSeq (sRet (cMeth "str" mJoin (cCon (.str (Str.ofString ""))) (cArgs [(cComp (iSeq (cVar 0)) 1 [] .one (fun _=>ret true) (law_bits_text_e1 cl))])))
  sPass)
def Hs_law_bits_text (cl:Nat→CLL):Prop:=∀ n,cl (n+1) "_law_bits_text"=runF 1 1 (b_law_bits_text (cl n))
noncomputable def law_plain_t1 (cl:CLL):CT :=
 (cNotT (cTru (cApp (cl "_law_plain") (cArgs [(cVar 0)]))))
noncomputable def law_plain_e1 (cl:CLL):C :=
 (cVar 0)
noncomputable def b_law_plain (cl:CLL):CS :=
 (sSeq (sIf (cTru (cApp fInst (cArgs [(cVar 0),(cCon (.ty "tuple"))]))) (sSeq (sRet (cBin oEq (cComp (iSeq (cVar 0)) 1 [] .one (law_plain_t1 cl) (law_plain_e1 cl)) (cLst (cArgs []))))
  sPass) sPass)
  (sSeq (sRet (cAndV (cApp fInst (cArgs [(cVar 0),(cCon (.ty "int"))])) (cNotV (cApp fInst (cArgs [(cVar 0),(cCon (.ty "bool"))])))))
  sPass))
def Hs_law_plain (cl:Nat→CLL):Prop:=∀ n,cl (n+1) "_law_plain"=runF 1 1 (b_law_plain (cl n))
noncomputable def law_v36_l1 (cl:CLL):CS :=
 (sSeq (sAsg (cApp (cl "_law_net") (cArgs [(cApp (cl "_law_state") (cArgs [(cVar 0),(cVar 1)])),(cCon (.int 4)),(cCon (.int 7)),(cCon (.int 16))])) (gN 2))
  (sSeq (sIf (cBool (cBin oNe (cApp (cl "net_text") (cArgs [(cVar 2)])) (cApp (cl "_law_net_text") (cArgs [(cVar 2)])))) (sSeq (sRet (cCon (.bl false)))
  sPass) sPass)
  (sSeq (sAsg (cApp (cl "_law_function") (cArgs [(cVar 2)])) (gN 3))
  (sSeq (sIf (cBool (cBin oNe (cApp (cl "bits_text") (cArgs [(cVar 3)])) (cApp (cl "_law_bits_text") (cArgs [(cVar 3)])))) (sSeq (sRet (cCon (.bl false)))
  sPass) sPass)
  (sSeq (sAsg (cApp (cl "net_read") (cArgs [(cApp (cl "_law_net_text") (cArgs [(cVar 2)]))])) (gN 4))
  (sSeq (sIf (cOrT (cBool (cBin oNe (cVar 4) (cVar 2))) (cNotT (cTru (cApp (cl "_law_plain") (cArgs [(cVar 4)]))))) (sSeq (sRet (cCon (.bl false)))
  sPass) sPass)
  sPass))))))
noncomputable def b_law_v36 (cl:CLL):CS :=
 (sSeq (sFor (iRange1 (cArgs [(cApp fMax (cArgs [(cCon (.int 1)),(cApp fMin (cArgs [(cApp fLen (cArgs [(cVar 0)])),(cCon (.int 10))]))]))])) (gN 1) (law_v36_l1 cl))
  (sSeq (sRet (cAndV (cBin oEq (cApp (cl "net_text") (cArgs [(cTup (cArgs [(cCon (.int 1)),(cCon (.int 2)),(cTup (cArgs []))]))])) (cCon (.str (Str.ofString "1 2:")))) (cBin oEq (cApp (cl "net_text") (cArgs [(cTup (cArgs [(cCon (.int 2)),(cCon (.int 3)),(cTup (cArgs [(cTup (cArgs [(cCon (.int 0)),(cCon (.int 2)),(cCon (.int 0)),(cCon (.int 1))])),(cTup (cArgs [(cCon (.int 1)),(cCon (.int 2)),(cCon (.int 1)),(cCon (.int 0))]))]))]))])) (cCon (.str (Str.ofString "2 3: 0-2/0+ 1-2/1-"))))))
  sPass))
def Hs_law_v36 (cl:Nat→CLL):Prop:=∀ n,cl (n+1) "law"=runF 1 5 (b_law_v36 (cl n))
variable {cl:Nat→CLL}
theorem cell_spec (h:Hs_law_cell_at cl) (n:Nat) (ns:List Int) (k:Int) (hk:0≤k) (S:Store):∃ c,cl (n+1) "_law_cell_at" [.rol (ns.map D.int),.int k] S=.ok (.int c) S:=by
 by_cases hl:k<ns.length
 ·refine ⟨ns[k.toNat]'(by omega),?_⟩
  have e:atI (ns.map D.int) k=some (.int (ns[k.toNat]'(by omega))):=by
   have q:=atI_nat (xs:=ns.map D.int) (j:=k.toNat) (v:=.int (ns[k.toNat]'(by omega))) (by rw [List.getElem?_map,List.getElem?_eq_getElem (by omega)]; rfl)
   rw [show ((k.toNat:Nat):Int)=k by omega] at q
   exact q
  rw [h]
  refine run_rt rfl ?_
  simp [b_law_cell_at,startE,hl,e]
 ·refine ⟨0,?_⟩
  rw [h]
  refine run_rt rfl ?_
  simp [b_law_cell_at,startE,hl]
def StOk (S:Store) (i:Nat):Prop:=∃ s b,lstAt S i=some [.int s,.bl b]∧(b=false→0≤s∧s<2147483647)
theorem StOk.lt {S:Store}{i:Nat} (h:StOk S i):i<S.length:=by
 obtain ⟨s,b,e,_⟩:=h
 exact lstAt_lt e
theorem StOk.ex {S S':Store}{i:Nat} (h:StOk S i) (e:Ex S S'):StOk S' i:=by
 obtain ⟨s,b,q,r⟩:=h
 exact ⟨s,b,e.lst q (fun z=>z),r⟩
theorem state_spec (h:Hs_law_state cl) (hc:Hs_law_cell_at cl) (n:Nat) (ns:List Int) (k:Int) (hk:0≤k) (S:Store):∃ S1,cl (n+2) "_law_state" [.rol (ns.map D.int),.int k] S=.ok (.lst S.length) S1∧Ex S S1∧StOk S1 S.length:=by
 obtain ⟨c,ec⟩:=cell_spec hc n ns k hk S
 rw [show n+2=(n+1)+1 from rfl,h]
 by_cases hb:(1000000000000000000:Int)≤c
 ·refine ⟨S++[.lst [.int (c - 1000000000000000000),.bl true]],run_rt rfl ?_,ex_app _ _,_,_,lstAt_new _ _,fun z=>by cases z⟩
  simp [b_law_state,startE,ec,hb]
 ·refine ⟨S++[.lst [.int (c % 2147483647),.bl false]],run_rt rfl ?_,ex_app _ _,_,_,lstAt_new _ _,fun _=>⟨Int.emod_nonneg _ (by decide),Int.emod_lt_of_pos _ (by decide)⟩⟩
  simp [b_law_state,startE,ec,hb]
theorem mulOk_r {i j:Int} (h1:-18446744073709551616<j) (h2:j<18446744073709551616):mulOk i j=true:=by
 unfold mulOk; simp [h1,h2]
@[simp] theorem ixN_two0:ixN 2 0=some 0:=rfl
inductive TakeR (c:CLL) (S:Store) (i:Nat) (m:Int):Prop
 | mk (r:Int) (S1:Store) (e:c "_law_take" [.lst i,.int m] S=.ok (.int r) S1) (a:0≤r) (b:r<m) (k:Kp (·=i) S S1) (l:S1.length=S.length) (st:StOk S1 i)
theorem take_spec (h:Hs_law_take cl) (n:Nat) {S:Store}{i:Nat} (hS:StOk S i) {m:Int} (m0:0<m) (m1:m<1073741824):TakeR (cl (n+1)) S i m:=by
 obtain ⟨s,b,hs,hb⟩:=hS
 have e0:=oIx_lst hs
 cases b with
 | true =>
  refine ⟨s % m,S.set i (.lst [.int (s / m),.bl true]),?_,Int.emod_nonneg _ (by omega),Int.emod_lt_of_pos _ m0,kp_set _ _,by simp,⟨_,_,lstAt_set hs,fun z=>by cases z⟩⟩
  rw [h]
  refine run_rt rfl ?_
  simp [b_law_take,startE,e0,m0,m1,oSet_lst hs]
 | false =>
  obtain ⟨s0,s1⟩:=hb rfl
  generalize hz:(s*48271+29) % 2147483647=z
  have z0:0≤z:=by rw [← hz]; exact Int.emod_nonneg _ (by decide)
  have z1:z<2147483647:=by rw [← hz]; exact Int.emod_lt_of_pos _ (by decide)
  generalize hy:(z*z+39373*z+7) % 2147483629=y
  have y0:0≤y:=by rw [← hy]; exact Int.emod_nonneg _ (by decide)
  have y1:y<2147483629:=by rw [← hy]; exact Int.emod_lt_of_pos _ (by decide)
  generalize hx:(y*y+16807*y) % 2147483587=x
  refine ⟨x / 8 % m,S.set i (.lst [.int z,.bl false]),?_,Int.emod_nonneg _ (by omega),Int.emod_lt_of_pos _ m0,kp_set _ _,by simp,⟨_,_,lstAt_set hs,fun _=>⟨z0,z1⟩⟩⟩
  rw [h]
  refine run_rt rfl ?_
  have e1:=oIx_lst (lstAt_set (ys:=[.int z,.bl false]) hs)
  have k1:mulOk s 48271=true:=mulOk_r (by decide) (by decide)
  have k2:mulOk z z=true:=mulOk_r (by omega) (by omega)
  have k3:mulOk 39373 z=true:=mulOk_r (by omega) (by omega)
  have k4:mulOk y y=true:=mulOk_r (by omega) (by omega)
  have k5:mulOk 16807 y=true:=mulOk_r (by omega) (by omega)
  simp [b_law_take,startE,e0,oSet_lst hs,k1,hz,e1,k2,k3,hy,k4,k5,hx,m0]
structure Ct where
 a:Int
 b:Int
 k:Int
 o:Int
 deriving DecidableEq
noncomputable def Ct.d (c:Ct):D:=.tup [.int c.a,.int c.b,.int c.k,.int c.o]
def Ct.ok (sw pl:Int) (c:Ct):Prop:=0≤c.a∧c.a<c.b∧c.b<pl∧0≤c.k∧c.k<sw∧0≤c.o∧c.o<2
structure Net where
 sw:Int
 pl:Int
 cs:List Ct
noncomputable def Net.d (n:Net):D:=.tup [.int n.sw,.int n.pl,.tup (n.cs.map Ct.d)]
structure Net.ok (ms mp mc:Int) (n:Net):Prop where
 s1:1≤n.sw
 s2:n.sw≤ms
 p1:2≤n.pl
 p2:n.pl≤mp
 c1:(n.cs.length:Int)≤mc
 c2:∀ c∈n.cs,c.ok n.sw n.pl
theorem oAdd_lst {S:Store}{n m:Nat}{xs ys:List D} (h1:lstAt S n=some xs) (h2:lstAt S m=some ys) (h:xs.length+ys.length≤lim):oAdd (.lst n) (.lst m) S=.ok (.lst S.length) (S++[.lst (xs++ys)]):=by
 show (match S[n]?,S[m]? with | some (O.lst xs),some (O.lst ys)=>(if xs.length+ys.length≤lim then R.ok (D.lst S.length) (S++[O.lst (xs++ys)]) else .bad) | _,_=>.bad)=_
 rw [lstAt_some h1,lstAt_some h2]
 dsimp only
 rw [if_pos h]
noncomputable def rowL (n:Int):List Int:=[0]++((List.range (n - 2).toNat).map fun (k:Nat)=>(2:Int)+(k:Nat))++[1]
noncomputable def rowJ (n i:Int):Int:=if i=0 then 0 else if i=n - 1 then 1 else i+1
theorem rowL_len {n:Int} (h2:2≤n):(rowL n).length=n.toNat:=by unfold rowL; simp; omega
theorem rowL_get {n:Int}{i:Nat} (h2:2≤n) (hi:(i:Int)<n):(rowL n)[i]?=some (rowJ n i):=by
 unfold rowL rowJ
 by_cases h0:i=0
 ·subst h0; simp
 ·rw [if_neg (by omega)]
  by_cases hl:(i:Int)=n - 1
  ·rw [if_pos hl,List.getElem?_append_right (by simp; omega)]
   have:i - ([0]++((List.range (n - 2).toNat).map fun (k:Nat)=>(2:Int)+(k:Nat))).length=0:=by simp; omega
   rw [this]; rfl
  ·rw [if_neg hl,List.getElem?_append_left (by simp; omega),List.getElem?_append_right (by simp; omega)]
   simp only [List.length_cons,List.length_nil,List.getElem?_map]
   rw [List.getElem?_range (by omega)]
   simp
   omega
theorem rowL_at {n i:Int} (h2:2≤n) (h0:0≤i) (hi:i<n):atI ((rowL n).map D.int) i=some (.int (rowJ n i)):=by
 have q:=atI_nat (xs:=(rowL n).map D.int) (j:=i.toNat) (v:=.int (rowJ n i.toNat)) (by rw [List.getElem?_map,rowL_get h2 (by omega)]; rfl)
 rw [show ((i.toNat:Nat):Int)=i by omega] at q
 exact q
theorem rowJ_in {n i:Int} (h2:2≤n) (h0:0≤i) (hi:i<n):0≤rowJ n i∧rowJ n i<n:=by
 unfold rowJ; split <;> (try split) <;> omega
theorem rowJ_ne {n i j:Int} (h2:2≤n) (h0:0≤i) (hij:i<j) (hj:j<n):rowJ n i≠rowJ n j:=by
 unfold rowJ; split <;> split <;> (try split) <;> (try split) <;> omega
theorem mima {x y n:Int} (hx:0≤x∧x<n) (hy:0≤y∧y<n) (h:x≠y):0≤(if y<x then y else x)∧(if y<x then y else x)<(if y>x then y else x)∧(if y>x then y else x)<n:=by
 split <;> split <;> omega
theorem upD_len (lo:Int) (n:Nat):(upD lo n).length=n:=by unfold upD; simp
theorem lim_eq:lim=1048576:=rfl
theorem row_ev {ρ:Env1}{j:Nat}{n:Int} (hj:ρ[j]?=some (some (.int n))) (h2:2≤n) (h7:n≤7) (S:Store):∃ k S1,cBin oAdd (cBin oAdd (cLst (cArgs [(cCon (.int 0))])) (cApp fListR (cArgs [(cCon (.int 2)),(cVar j)]))) (cLst (cArgs [(cCon (.int 1))])) ρ S=.ok (.lst k) S1∧Ex S S1∧S.length≤k∧lstAt S1 k=some ((rowL n).map D.int):=by
 have e1:fListR [.int 2,.int n] (S++[O.lst [D.int 0]])=.ok (.lst (S++[O.lst [D.int 0]]).length) (S++[O.lst [D.int 0]]++[.lst (upD 2 (n - 2).toNat)]):=by
  unfold fListR
  dsimp only
  rw [if_pos (by omega)]
 generalize hA:S++[O.lst [D.int 0]]++[O.lst (upD 2 (n - 2).toNat)]=A at e1
 have a1:lstAt A S.length=some [.int 0]:=by rw [← hA]; exact lstAt_app (lstAt_new _ _)
 have a2:lstAt A (S++[O.lst [D.int 0]]).length=some (upD 2 (n - 2).toNat):=by rw [← hA]; exact lstAt_new _ _
 have e2:=oAdd_lst a1 a2 (by rw [upD_len,lim_eq]; simp; omega)
 generalize hB:A++[O.lst ([D.int 0]++upD 2 (n - 2).toNat)]=B at e2
 have b1:lstAt (B++[O.lst [D.int 1]]) A.length=some ([D.int 0]++upD 2 (n - 2).toNat):=by rw [← hB]; exact lstAt_app (lstAt_new _ _)
 have e3:=oAdd_lst b1 (lstAt_new B [D.int 1]) (by rw [List.length_append,upD_len,lim_eq]; simp; omega)
 refine ⟨(B++[O.lst [D.int 1]]).length,(B++[O.lst [D.int 1]])++[O.lst ([D.int 0]++upD 2 (n - 2).toNat++[D.int 1])],?_,?_,?_,?_⟩
 ·simp only [cBin_ev,cLst_ev,cArgs_cons,cArgs_nil,cCon_ev,rbnd_ok,cApp_ev,cVar_ev,hj,e1,e2,e3]
 ·have:Ex S A:=by rw [← hA]; exact (ex_app _ _).trans (ex_app _ _)
  have:Ex S B:=by rw [← hB]; exact this.trans (ex_app _ _)
  exact (this.trans (ex_app _ _)).trans (ex_app _ _)
 ·rw [List.length_append,← hB,List.length_append,← hA]; simp; omega
 ·rw [lstAt_new]
  congr 1
  unfold rowL upD
  simp
inductive EndsR (c:CLL) (S:Store) (i:Nat) (pl:Int):Prop
 | mk (x y:Int) (S1:Store) (e:c "_law_ends" [.lst i,.int pl] S=.ok (.tup [.int x,.int y]) S1) (h0:0≤x) (h1:x<y) (h2:y<pl) (k:Kp (·=i) S S1) (st:StOk S1 i)
theorem ends_spec (h:Hs_law_ends cl) (ht:Hs_law_take cl) (n:Nat) {S:Store}{i:Nat} (hS:StOk S i) {pl:Int} (p2:2≤pl) (p7:pl≤7):EndsR (cl (n+2)) S i pl:=by
 obtain ⟨k,S1,e1,x1,hk,l1⟩:=row_ev (ρ:=[some (.lst i),some (.int pl),none,none,none]) (j:=1) rfl p2 p7 S
 have st1:=hS.ex x1
 have ki:k≠i:=by have:=hS.lt; omega
 obtain ⟨one,S2,e2,o0,o1,k2,n2,st2⟩:=take_spec ht n st1 (m:=pl - 1) (by omega) (by omega)
 obtain ⟨c3,S3,e3,c0,c1,k3,n3,st3⟩:=take_spec ht n st2 (m:=3) (by omega) (by omega)
 have l3:lstAt S3 k=some ((rowL pl).map D.int):=k3.lst (k2.lst l1 ki) ki
 have fin:∀ (other:Int) (S4:Store),one<other→other<pl→lstAt S4 k=some ((rowL pl).map D.int)→∀ x y,x=(if rowJ pl other<rowJ pl one then rowJ pl other else rowJ pl one)→y=(if rowJ pl other>rowJ pl one then rowJ pl other else rowJ pl one) →
   (oIx (.lst k) (.int one) S4=.ok (.int (rowJ pl one)) S4∧oIx (.lst k) (.int other) S4=.ok (.int (rowJ pl other)) S4)∧0≤x∧x<y∧y<pl:=by
  intro other S4 h1 h2 l4 x y ex ey
  obtain ⟨m1,m2,m3⟩:=mima (rowJ_in p2 (i:=one) (by omega) (by omega)) (rowJ_in p2 (i:=other) (by omega) (by omega)) (rowJ_ne p2 (by omega) h1 h2)
  subst ex ey
  exact ⟨⟨by rw [oIx_lst l4,rowL_at p2 (by omega) (by omega)],by rw [oIx_lst l4,rowL_at p2 (by omega) (by omega)]⟩,m1,m2,m3⟩
 by_cases hc:c3=0
 ·obtain ⟨r,S4,e4,r0,r1,k4,n4,st4⟩:=take_spec ht n st3 (m:=pl - 1 - one) (by omega) (by omega)
  obtain ⟨⟨f1,f2⟩,f3,f4,f5⟩:=fin (one+1+r) S4 (by omega) (by omega) (k4.lst l3 ki) _ _ rfl rfl
  refine ⟨_,_,S4,?_,f3,f4,f5,(x1.kp.trans k2).trans (k3.trans k4),st4⟩
  rw [show n+2=(n+1)+1 from rfl,h]
  refine run_rt rfl ?_
  simp [b_law_ends,startE,↓e1,e2,e3,hc,e4,f1,f2]
 ·obtain ⟨⟨f1,f2⟩,f3,f4,f5⟩:=fin (one+1) S3 (by omega) (by omega) l3 _ _ rfl rfl
  refine ⟨_,_,S3,?_,f3,f4,f5,(x1.kp.trans k2).trans k3,st3⟩
  rw [show n+2=(n+1)+1 from rfl,h]
  refine run_rt rfl ?_
  simp [b_law_ends,startE,↓e1,e2,e3,hc,f1,f2]
theorem _root_.L2.Kp.setNew {P:Nat→Prop}{S0 S:Store}{l:Nat}{o:O} (h:Kp P S0 S) (hl:S0.length≤l):Kp P S0 (S.set l o) :=
 ⟨by rw [List.length_set]; exact h.le,fun j hj n=>by rw [List.getElem?_set_ne (by omega)]; exact h.eq j hj n⟩
theorem StOk.setO {S:Store}{i l:Nat}{o:O} (h:StOk S i) (hl:l≠i):StOk (S.set l o) i:=by
 obtain ⟨s,b,q,r⟩:=h
 exact ⟨s,b,lstAt_of (by rw [List.getElem?_set_ne hl]; exact lstAt_some q),r⟩
theorem lstAt_setO {S:Store}{i l:Nat}{o:O}{xs:List D} (h:lstAt S i=some xs) (hl:l≠i):lstAt (S.set l o) i=some xs:=lstAt_of (by rw [List.getElem?_set_ne hl]; exact lstAt_some h)
@[simp] theorem upD_get {lo:Int}{n i:Nat}{d:D}:(upD lo n)[i]?=some d↔i<n∧d=.int (lo+i):=by
 unfold upD
 rw [List.getElem?_map]
 by_cases h:i<n
 ·rw [List.getElem?_range h]; simp [h,eq_comm]
 ·rw [List.getElem?_eq_none (by simpa using h)]; simp [h]
structure Rows (S0 S:Store) (i l:Nat) (sw pl:Int) (cs:List Ct):Prop where
 at':lstAt S l=some (cs.map Ct.d)
 ok:∀ c∈cs,c.ok sw pl
 st:StOk S i
 kp:Kp (·=i) S0 S
 ge:S0.length≤l
 ne:l≠i
theorem Rows.put {S0 S S1:Store}{i l:Nat}{sw pl:Int}{cs ds:List Ct} (h:Rows S0 S i l sw pl cs) (k:Kp (·=i) S S1) (st:StOk S1 i) (hd:∀ c∈ds,c.ok sw pl):Rows S0 (S1.set l (.lst (ds.map Ct.d))) i l sw pl ds :=
 ⟨lstAt_set (k.lst h.at' h.ne),hd,st.setO h.ne,(h.kp.trans k).setNew h.ge,h.ge,h.ne⟩
theorem Rows.go {S0 S S1:Store}{i l:Nat}{sw pl:Int}{cs:List Ct} (h:Rows S0 S i l sw pl cs) (k:Kp (·=i) S S1) (st:StOk S1 i):Rows S0 S1 i l sw pl cs:=⟨k.lst h.at' h.ne,h.ok,st,h.kp.trans k,h.ge,h.ne⟩
noncomputable def nE (i:Nat) (ms mp mc sw pl:Int) (l:Nat) (a b c d e f:Option D):Env1:=[some (.lst i),some (.int ms),some (.int mp),some (.int mc),some (.int sw),some (.int pl),some (.lst l),a,b,c,d,e,f]
inductive NetP (S:Store) (i:Nat) (ms mp mc:Int) (N:Net) (S1:Store):Prop
 | mk (ok:N.ok ms mp mc) (k:Kp (·=i) S S1) (st:StOk S1 i)
inductive NetRt (r:RS) (S:Store) (i:Nat) (ms mp mc:Int):Prop
 | mk (N:Net) (S1:Store) (e:r=.rt N.d S1) (p:NetP S i ms mp mc N S1)
inductive NetOk (r:R D) (S:Store) (i:Nat) (ms mp mc:Int):Prop
 | mk (N:Net) (S1:Store) (e:r=.ok N.d S1) (ok:N.ok ms mp mc) (k:Kp (·=i) S S1) (st:StOk S1 i)
inductive NetI1 (S0:Store) (i l:Nat) (ms mp mc sw pl:Int) (v7 v8 v9 v10:Option D) (m:Nat) (cs:List Ct) (j:Nat) (ρ:Env1) (S':Store):Prop
 | mk (v12:Option D) (ds:List Ct) (e:ρ=nE i ms mp mc sw pl l v7 v8 v9 v10 (some (.lst m)) v12) (Rl:Rows S0 S' i l sw pl cs) (Rd:Rows S0 S' i m sw pl ds) (h:ds.length=j)
inductive NetI2 (S0:Store) (i l:Nat) (ms mp mc sw pl:Int) (v7 v8 v9:Option D) (n0:Nat) (j:Nat) (ρ:Env1) (S':Store):Prop
 | mk (v10:Option D) (ds:List Ct) (e:ρ=nE i ms mp mc sw pl l v7 v8 v9 v10 none none) (R:Rows S0 S' i l sw pl ds) (h:ds.length=n0+j)
inductive NetI3 (S0:Store) (i l:Nat) (ms mp mc sw pl:Int) (kr t:Nat) (j:Nat) (ρ:Env1) (S':Store):Prop
 | mk (v8 v9:Option D) (ds:List Ct) (e:ρ=nE i ms mp mc sw pl l (some (.lst kr)) v8 v9 none none none) (R:Rows S0 S' i l sw pl ds) (h:ds.length=j) (q1:lstAt S' kr=some ((rowL pl).map D.int)) (q2:lstAt S' t=some (((rowL pl).drop 1).map D.int))
theorem net_spec (h:Hs_law_net cl) (he:Hs_law_ends cl) (ht:Hs_law_take cl) (n:Nat) {S:Store}{i:Nat} (hS:StOk S i) {ms mp mc:Int} (hms:1≤ms∧ms≤4) (hmp:2≤mp∧mp≤7) (hmc:0≤mc∧mc≤16):NetOk (cl (n+3) "_law_net" [.lst i,.int ms,.int mp,.int mc] S) S i ms mp mc:=by
 obtain ⟨r1,S1,e1,a1,b1,k1,n1,st1⟩:=take_spec ht (n+1) hS (m:=ms) (by omega) (by omega)
 obtain ⟨r2,S2,e2,a2,b2,k2,n2,st2⟩:=take_spec ht (n+1) st1 (m:=mp - 1) (by omega) (by omega)
 generalize hsw:1+r1=sw at *
 generalize hpl:2+r2=pl at *
 have w1:1≤sw:=by omega
 have w2:sw≤ms:=by omega
 have p1:2≤pl:=by omega
 have p2:pl≤mp:=by omega
 have kS2:Kp (·=i) S S2:=k1.trans k2
 have hl:S.length≤S2.length:=kS2.le
 have li:S2.length≠i:=by have:=hS.lt; omega
 obtain ⟨kr,S4,e4,x4,hk4,l4⟩:=row_ev (ρ:=nE i ms mp mc sw pl S2.length none none none none none none) (j:=5) rfl p1 (by omega) (S2++[.lst []])
 have kri:kr≠i:=by have:=hS.lt; simp at hk4; omega
 have krl:kr≠S2.length:=by simp at hk4; omega
 have R4:Rows S S4 i S2.length sw pl []:=⟨x4.lst (lstAt_new _ _) (fun z=>z),(fun c hc=>by cases hc),(st2.ex (ex_app _ _)).ex x4,kS2.trans ((ex_app S2 [.lst []]).trans x4).kp,hl,li⟩
 have fin:∀ (cs:List Ct) (S5:Store) (v7 v8 v9 v10:Option D),Rows S S5 i S2.length sw pl cs→(cs.length:Int)≤mc →
   NetRt ((sSeq (sAsg (cLst (cArgs [])) (gN 11)) (sSeq (sFor (iSeq (cVar 6)) (gN 12) (law_net_l1 (cl (n+2)))) (sSeq (sRet (cTup (cArgs [(cVar 4),(cVar 5),(cApp fTuple (cArgs [(cVar 11)]))]))) sPass))) (nE i ms mp mc sw pl S2.length v7 v8 v9 v10 none none) S5) S i ms mp mc:=by
  intro cs S5 v7 v8 v9 v10 R5 hc
  have hm:S.length≤S5.length:=R5.kp.le
  have mi:S5.length≠i:=by have:=hS.lt; omega
  have ml:S2.length≠S5.length:=by have:=lstAt_lt R5.at'; omega
  have Rm:Rows S (S5++[.lst []]) i S2.length sw pl cs:=R5.go (ex_app _ _).kp (R5.st.ex (ex_app _ _))
  obtain ⟨ρ',S6,e6,v12,ds,hρ,Rl,Rd,hd⟩:=loop_inv (w:=[(S2.length,cs.map Ct.d)]) (g:=gN 12) (b:=law_net_l1 (cl (n+2))) (items:=cs.map Ct.d)
   (NetI1 S i S2.length ms mp mc sw pl v7 v8 v9 v10 S5.length cs)
   (ρ:=nE i ms mp mc sw pl S2.length v7 v8 v9 v10 (some (.lst S5.length)) none) (S:=S5++[.lst []])
   (fun j ρ S' hp=>by obtain ⟨_,_,_,q,_⟩:=hp; exact okW_one q.at')
   ⟨none,[],rfl,Rm,⟨lstAt_new _ _,(fun c hc=>by cases hc),Rm.st,Rm.kp,hm,mi⟩,rfl⟩
   (fun j d ρ S' hd hp=>by
    obtain ⟨v12,ds,rfl,Rl,Rd,hj⟩:=hp
    rw [List.getElem?_map] at hd
    obtain ⟨c,hc1,rfl⟩:=Option.map_eq_some_iff.mp hd
    have cok:=R5.ok c (List.mem_of_getElem? hc1)
    have jl:j<cs.length:=(List.getElem?_eq_some_iff.mp hc1).1
    obtain ⟨r,S7,e7,r0,r9,k7,n7,st7⟩:=take_spec ht (n+1) Rl.st (m:=((ds.map Ct.d).length:Int)+1) (by omega) (by rw [List.length_map]; omega)
    rw [List.length_map] at e7 r9
    have hins:∀ c'∈ds.take r.toNat++c::ds.drop r.toNat,c'.ok sw pl:=fun c' hc'=>by
     rcases List.mem_append.mp hc' with q | q
     ·exact Rd.ok c' (List.mem_of_mem_take q)
     ·rcases List.mem_cons.mp q with q | q
      ·subst q; exact cok
      ·exact Rd.ok c' (List.mem_of_mem_drop q)
    have Rd7:=Rd.put k7 st7 hins
    have Rl7:Rows S (S7.set S5.length (.lst ((ds.take r.toNat++c::ds.drop r.toNat).map Ct.d))) i S2.length sw pl cs:=⟨lstAt_setO (k7.lst Rl.at' Rl.ne) (Ne.symm ml),Rl.ok,st7.setO Rd.ne,(Rl.kp.trans k7).setNew Rd.ge,Rl.ge,Rl.ne⟩
    refine ⟨_,_,rfl,_,_,.inl ?_,⟨some c.d,ds.take r.toNat++c::ds.drop r.toNat,rfl,Rl7,Rd7,by simp; omega⟩⟩
    have q1:=tyOk_lst Rd.at'
    have q2:=fLen_lst Rd.at'
    have q3:=mList_ev (k7.lst Rd.at' Rd.ne) gInsert [.int r,c.d]
    have q4:ds.length<1000∧0≤r∧r.toNat≤ds.length:=by omega
    simp [nE,law_net_l1,q1,q2,e7,q3,q4])
  subst hρ
  refine ⟨⟨sw,pl,ds⟩,S6,?_,⟨⟨w1,w2,p1,p2,by show (ds.length:Int)≤mc; rw [hd,List.length_map]; exact hc,Rd.ok⟩,Rd.kp,Rd.st⟩⟩
  have q5:lstAt (S5++[O.lst []]) S2.length=some (cs.map Ct.d):=Rm.at'
  have q6:=fTuple_lst Rd.at'
  unfold nE at e6 ⊢
  simp [q5,e6,q6,Net.d]
 have mid:∀ (cs:List Ct) (S5:Store) (v7 v8 v9:Option D),Rows S S5 i S2.length sw pl cs→(cs.length:Int)≤mc →
   NetRt ((sSeq (sFor (iRange1 (cArgs [(cApp (cl (n+2) "_law_take") (cArgs [(cVar 0),(cBin oAdd (cBin (oInt fun i j=>i - j) (cVar 3) (cApp fLen (cArgs [(cVar 6)]))) (cCon (.int 1)))]))])) (gN 10) (law_net_l2 (cl (n+2))))
    (sSeq (sAsg (cLst (cArgs [])) (gN 11)) (sSeq (sFor (iSeq (cVar 6)) (gN 12) (law_net_l1 (cl (n+2)))) (sSeq (sRet (cTup (cArgs [(cVar 4),(cVar 5),(cApp fTuple (cArgs [(cVar 11)]))]))) sPass)))) (nE i ms mp mc sw pl S2.length v7 v8 v9 none none none) S5) S i ms mp mc:=by
  intro cs S5 v7 v8 v9 R5 hc
  obtain ⟨r,S6,e6,r0,r9,k6,n6,st6⟩:=take_spec ht (n+1) R5.st (m:=mc - ((cs.map Ct.d).length:Int)+1) (by rw [List.length_map]; omega) (by omega)
  rw [List.length_map] at e6 r9
  have R6:=R5.go k6 st6
  obtain ⟨ρ',S7,e7,v10,ds,hρ,Rd,hd⟩:=loop_inv (w:=[]) (g:=gN 10) (b:=law_net_l2 (cl (n+2))) (items:=upD 0 r.toNat)
   (NetI2 S i S2.length ms mp mc sw pl v7 v8 v9 cs.length)
   (fun j ρ S' hp=>okW_nil _) ⟨none,cs,rfl,R6,rfl⟩
   (fun j d ρ S' hd hp=>by
    obtain ⟨v10,ds,rfl,R,hj⟩:=hp
    rw [upD_get] at hd
    obtain ⟨hjr,rfl⟩:=hd
    obtain ⟨x,y,S8,e8,x0,xy,yp,k8,st8⟩:=ends_spec he ht n R.st p1 (by omega)
    obtain ⟨r3,S9,e9,a3,b3,k9,n9,st9⟩:=take_spec ht (n+1) st8 (m:=sw) (by omega) (by omega)
    obtain ⟨r4,S10,e10,a4,b4,k10,n10,st10⟩:=take_spec ht (n+1) st9 (m:=2) (by omega) (by omega)
    have kk:=(k8.trans k9).trans k10
    have hok:∀ c∈ds++[⟨x,y,r3,r4⟩],Ct.ok sw pl c:=fun c hc=>by
     rcases List.mem_append.mp hc with q | q
     ·exact R.ok c q
     ·simp at q; subst q; exact ⟨x0,xy,yp,a3,b3,a4,b4⟩
    have Rd:=R.put kk st10 hok
    refine ⟨_,_,rfl,_,_,.inl ?_,⟨some (.int (0+(j:Int))),ds++[⟨x,y,r3,r4⟩],rfl,Rd,by simp; omega⟩⟩
    have q1:=tyOk_lst R.at'
    have q2:=mList_ev (kk.lst R.at' R.ne) gAppend [Ct.d ⟨x,y,r3,r4⟩]
    have q3:ds.length<lim:=by rw [lim_eq]; omega
    have q4:(2:Nat)+2≤lim:=by decide
    simp [nE,law_net_l2,q1,e8,e9,e10,Ct.d,q4] at q2 ⊢
    simp [q2,q3])
  subst hρ
  obtain ⟨N,S11,e11,r11⟩:=fin ds S7 v7 v8 v9 v10 Rd (by rw [hd,upD_len]; omega)
  refine ⟨N,S11,?_,r11⟩
  have q5:=fLen_lst R5.at'
  rw [List.length_map] at q5
  have q6:-4611686018427387904≤r∧r<4611686018427387904:=by omega
  rw [sSeq_ev,sFor_ev]
  unfold nE at e7 e11 ⊢
  simp [q5,e6,q6,e7,-sSeq_ev,e11]
 obtain ⟨c5,S5,e5,a5,b5,k5,n5,st5⟩:=take_spec ht (n+1) R4.st (m:=2) (by omega) (by omega)
 have R5:=R4.go k5 st5
 have l5:lstAt S5 kr=some ((rowL pl).map D.int):=k5.lst l4 kri
 have main:NetRt (b_law_net (cl (n+2)) [some (.lst i),some (.int ms),some (.int mp),some (.int mc),none,none,none,none,none,none,none,none,none] S) S i ms mp mc:=by
  unfold nE at e4
  by_cases hc:c5=0∧pl - 1≤mc
  ·have hcut:cutD ((rowL pl).map D.int) (some 1) none=((rowL pl).drop 1).map D.int:=by
    unfold cutD
    have hs:HT.sIx ((rowL pl).map D.int).length 0 (some 1)=1:=by
     have:=HT.sIx_nat ((rowL pl).map D.int).length 0 1
     have hl:=rowL_len p1
     rw [List.length_map] at this ⊢
     rw [show ((1:Nat):Int)=1 from rfl] at this
     rw [this]; omega
    rw [hs,HT.sIx_none,List.map_drop,List.take_of_length_le (by simp)]
   have x6:=ex_app S5 [O.lst (((rowL pl).drop 1).map D.int)]
   have t6:lstAt (S5++[O.lst (((rowL pl).drop 1).map D.int)]) S5.length=some (((rowL pl).drop 1).map D.int):=lstAt_new _ _
   have l6:=x6.lst l5 (fun z=>z)
   have ti:S5.length≠i:=by have:=st5.lt; omega
   have tl:S5.length≠S2.length:=by have:=lstAt_lt R5.at'; omega
   have R6:=R5.go x6.kp (st5.ex x6)
   obtain ⟨ρ',S7,e7,v8,v9,ds,hρ,Rd,hd,_⟩:=loop_inv (w:=[(kr,(rowL pl).map D.int),(S5.length,((rowL pl).drop 1).map D.int)]) (g:=gT [gN 8,gN 9]) (b:=law_net_l3 (cl (n+2))) (items:=zipD ((rowL pl).map D.int) (((rowL pl).drop 1).map D.int))
    (NetI3 S i S2.length ms mp mc sw pl kr S5.length)
    (ρ:=nE i ms mp mc sw pl S2.length (some (.lst kr)) none none none none none) (S:=S5++[O.lst (((rowL pl).drop 1).map D.int)])
    (fun j ρ S' hp=>by obtain ⟨_,_,_,_,_,_,q1,q2⟩:=hp; exact okW_two q1 q2)
    ⟨none,none,[],rfl,R6,rfl,l6,t6⟩
    (fun j d ρ S' hd hp=>by
     obtain ⟨v8,v9,ds,rfl,R,hj,q1,q2⟩:=hp
     have hz:∃ x y,(rowL pl)[j]?=some x∧(rowL pl)[1+j]?=some y∧d=.tup [.int x,.int y]:=by
      unfold zipD at hd
      rw [List.getElem?_map] at hd
      obtain ⟨⟨x,y⟩,hxy,rfl⟩:=Option.map_eq_some_iff.mp hd
      rw [List.getElem?_zip_eq_some,List.getElem?_map,List.getElem?_map,List.getElem?_drop] at hxy
      obtain ⟨hx,hy⟩:=hxy
      obtain ⟨x',hx',rfl⟩:=Option.map_eq_some_iff.mp hx
      obtain ⟨y',hy',rfl⟩:=Option.map_eq_some_iff.mp hy
      exact ⟨x',y',hx',hy',rfl⟩
     obtain ⟨x,y,hx,hy,rfl⟩:=hz
     have hjl:1+j<(rowL pl).length:=(List.getElem?_eq_some_iff.mp hy).1
     rw [rowL_len p1] at hjl
     rw [rowL_get p1 (by omega)] at hx hy
     cases hx
     cases hy
     obtain ⟨r3,S9,e9,a3,b3,k9,n9,st9⟩:=take_spec ht (n+1) R.st (m:=sw) (by omega) (by omega)
     obtain ⟨r4,S10,e10,a4,b4,k10,n10,st10⟩:=take_spec ht (n+1) st9 (m:=2) (by omega) (by omega)
     have kk:=k9.trans k10
     obtain ⟨m1,m2,m3⟩:=mima (n:=pl) (rowJ_in p1 (i:=(j:Int)) (by omega) (by omega)) (rowJ_in p1 (i:=((1+j:Nat):Int)) (by omega) (by omega)) (rowJ_ne p1 (by omega) (by omega) (by omega))
     generalize hX:(if rowJ pl ((1+j:Nat):Int)<rowJ pl (j:Int) then rowJ pl ((1+j:Nat):Int) else rowJ pl (j:Int))=X at m1 m2
     generalize hY:(if rowJ pl ((1+j:Nat):Int)>rowJ pl (j:Int) then rowJ pl ((1+j:Nat):Int) else rowJ pl (j:Int))=Y at m2 m3
     have hok:∀ c∈ds++[⟨X,Y,r3,r4⟩],Ct.ok sw pl c:=fun c hc=>by
      rcases List.mem_append.mp hc with q | q
      ·exact R.ok c q
      ·simp at q; subst q; exact ⟨m1,m2,m3,a3,b3,a4,b4⟩
     have Rd:=R.put kk st10 hok
     refine ⟨_,_,rfl,_,_,.inl ?_,⟨some (.int (rowJ pl (j:Int))),some (.int (rowJ pl ((1+j:Nat):Int))),ds++[⟨X,Y,r3,r4⟩],rfl,Rd,by simp; omega,lstAt_setO (kk.lst q1 kri) krl.symm,lstAt_setO (kk.lst q2 ti) tl.symm⟩⟩
     have q7:=tyOk_lst R.at'
     have q8:=mList_ev (kk.lst R.at' R.ne) gAppend [Ct.d ⟨X,Y,r3,r4⟩]
     have q9:ds.length<lim:=by rw [lim_eq]; omega
     simp [nE,law_net_l3,q7,e9,e10,Ct.d,-Int.natCast_add,hX,hY] at q8 ⊢
     simp [q8,q9])
   have hdl:ds.length=pl.toNat - 1:=by
    rw [hd]
    unfold zipD
    rw [List.length_map,List.length_zip,List.length_map,List.length_map,List.length_drop,rowL_len p1]
    exact Nat.min_eq_right (Nat.sub_le _ _)
   subst hρ
   obtain ⟨N,S11,e11,r11⟩:=mid ds S7 (some (.lst kr)) v8 v9 Rd (by omega)
   unfold nE at e7 e11
   refine ⟨N,S11,?_,r11⟩
   have q3:=oSl_lst l5 (some 1) none
   rw [hcut] at q3
   unfold b_law_net
   generalize hT:((rowL pl).drop 1).map D.int=T at q3 l6 t6 e7
   generalize hT2:(rowL pl).map D.int=T2 at q3 l6 t6 e7
   simp [e1,e2,hsw,hpl,↓e4,e5,hc.1,hc.2,q3,l6,t6,e7,↓e11]
  ·obtain ⟨N,S11,e11,r11⟩:=mid [] S5 (some (.lst kr)) none none R5 (by show (0:Int)≤mc; omega)
   unfold nE at e11
   refine ⟨N,S11,?_,r11⟩
   unfold b_law_net
   by_cases h0:c5=0
   ·have h1:¬ (pl - 1≤mc):=fun z=>hc ⟨h0,z⟩
    simp [e1,e2,hsw,hpl,↓e4,e5,h0,h1,↓e11]
   ·simp [e1,e2,hsw,hpl,↓e4,e5,h0,↓e11]
 obtain ⟨N,S12,e12,a12,b12,c12⟩:=main
 exact ⟨N,S12,by rw [show n+3=(n+2)+1 from rfl,h]; exact run_rt rfl e12,a12,b12,c12⟩
end My
namespace Mt
def Joined (es:List (Int × Int)):Prop:=∀ C:Int→Prop,C 0→(∀ e∈es,(C e.1↔C e.2))→C 1
structure Reached (es:List (Int × Int)) (s:Int) (F:Int→Prop):Prop where
 start:F s
 closed:∀ e∈es,(F e.1↔F e.2)
 least:∀ C:Int→Prop,C s→(∀ e∈es,(C e.1↔C e.2))→∀ x,F x→C x
theorem Reached.joined {es:List (Int × Int)}{F:Int→Prop} (h:Reached es 0 F):F 1↔Joined es:=⟨fun f C c0 cc=>h.least C c0 cc 1 f,fun j=>j F h.start h.closed⟩
theorem filter_lt {α:Type}{p q:α→Bool}{l:List α} (h:∀ x,p x=true→q x=true) {a:α} (ha:a∈l) (h1:q a=true) (h2:p a=false):(l.filter p).length<(l.filter q).length:=by
 induction l with
 | nil=>cases ha
 | cons x r ih =>
  have le:(r.filter p).length≤(r.filter q).length:=by
   clear ih ha
   induction r with
   | nil=>simp
   | cons y r ih =>
    rw [List.filter_cons,List.filter_cons]
    cases hp:p y with
    | true=>rw [h y hp]; simpa using ih
    | false =>
     cases q y with
     | true=>simp; omega
     | false=>simpa using ih
  rw [List.filter_cons,List.filter_cons]
  rcases List.mem_cons.mp ha with e | e
  ·subst e
   rw [h1,h2]; simp; omega
  ·have:=ih e
   cases hp:p x with
   | true=>rw [h x hp]; simpa using this
   | false =>
    cases q x with
    | true=>simp; omega
    | false=>simpa using this
noncomputable def mk1 (ms:List Int) (e:Int × Int):List Int :=
 let l:=if ms.getD e.2.toNat 0<ms.getD e.1.toNat 0 then ms.getD e.2.toNat 0 else ms.getD e.1.toNat 0
 (ms.set e.1.toNat l).set e.2.toNat l
structure MOk (pl:Int) (ms:List Int):Prop where
 len:(ms.length:Int)=pl
 pos:∀ (i:Nat) x,ms[i]?=some x→0≤x
def Z (ms:List Int) (x:Int):Prop:=0≤x∧ms[x.toNat]?=some 0
theorem mk1_ok {pl:Int}{ms:List Int}{e:Int × Int} (h:MOk pl ms) (h1:0≤e.1∧e.1<pl) (h2:0≤e.2∧e.2<pl):MOk pl (mk1 ms e)∧∀ x,Z (mk1 ms e) x↔Z ms x∨((x=e.1∨x=e.2)∧(Z ms e.1∨Z ms e.2)):=by
 obtain ⟨a,b⟩:=e
 dsimp only at h1 h2 ⊢
 have la:a.toNat<ms.length:=by have:=h.len; omega
 have lb:b.toNat<ms.length:=by have:=h.len; omega
 have ga:ms[a.toNat]?=some ms[a.toNat]:=List.getElem?_eq_getElem la
 have gb:ms[b.toNat]?=some ms[b.toNat]:=List.getElem?_eq_getElem lb
 have pa:=h.pos _ _ ga
 have pb:=h.pos _ _ gb
 have da:ms.getD a.toNat 0=ms[a.toNat]:=by simp [List.getD,ga]
 have db:ms.getD b.toNat 0=ms[b.toNat]:=by simp [List.getD,gb]
 unfold mk1
 dsimp only
 rw [da,db]
 generalize hA:ms[a.toNat]=A at *
 generalize hB:ms[b.toNat]=B at *
 generalize hl:(if B<A then B else A)=l
 have l0:0≤l:=by
  rw [← hl]
  split
  ·exact pb
  ·exact pa
 have lz:l=0↔A=0∨B=0:=by
  rw [← hl]
  split
  ·rename_i q
   exact ⟨.inr,fun z=>z.elim (fun z=>absurd (z▸q:B<0) (Int.not_lt.mpr pb)) id⟩
  ·rename_i q
   exact ⟨.inl,fun z=>z.elim id fun z=>Int.le_antisymm (z▸Int.not_lt.mp q:A≤0) pa⟩
 have get:∀ i:Nat,((ms.set a.toNat l).set b.toNat l)[i]?=if i=b.toNat∨i=a.toNat then some l else ms[i]?:=by
  intro i
  by_cases hb:i=b.toNat
  ·subst hb
   rw [List.getElem?_set_self (by simpa using lb),if_pos (.inl rfl)]
  ·rw [List.getElem?_set_ne (fun z=>hb z.symm)]
   by_cases ha:i=a.toNat
   ·subst ha
    rw [List.getElem?_set_self la,if_pos (.inr rfl)]
   ·rw [List.getElem?_set_ne (fun z=>ha z.symm),if_neg (by omega)]
 refine ⟨⟨by simpa using h.len,fun i x hx=>?_⟩,fun x=>?_⟩
 ·rw [get] at hx
  split at hx
  ·cases hx; exact l0
  ·exact h.pos i x hx
 ·unfold Z
  rw [get,ga,gb]
  simp only [Option.some.injEq]
  constructor
  ·rintro ⟨x0,hx⟩
   split at hx
   ·rename_i hi
    cases hx
    have:=lz.mp rfl
    refine .inr ⟨by omega,?_⟩
    rcases this with z | z
    ·exact .inl ⟨h1.1,z⟩
    ·exact .inr ⟨h2.1,z⟩
   ·exact .inl ⟨x0,hx⟩
  ·rintro (⟨x0,hx⟩ | ⟨hx,hz⟩)
   ·refine ⟨x0,?_⟩
    split
    ·rename_i hi
     rcases hi with hi | hi
     ·rw [hi,gb] at hx; rw [lz.mpr (.inr (Option.some.inj hx))]
     ·rw [hi,ga] at hx; rw [lz.mpr (.inl (Option.some.inj hx))]
    ·exact hx
   ·refine ⟨by omega,?_⟩
    rw [if_pos (by omega)]
    congr 1
    rcases hz with ⟨_,z⟩ | ⟨_,z⟩
    ·exact lz.mpr (.inl z)
    ·exact lz.mpr (.inr z)
theorem round_ok {pl:Int}:∀ (es:List (Int × Int)) {ms:List Int},MOk pl ms→(∀ e∈es,(0≤e.1∧e.1<pl)∧0≤e.2∧e.2<pl)→MOk pl (es.foldl mk1 ms)∧(∀ x,Z ms x→Z (es.foldl mk1 ms) x) ∧
  ((∀ x,Z (es.foldl mk1 ms) x→Z ms x)→∀ e∈es,(Z ms e.1↔Z ms e.2))∧((∀ e∈es,(Z ms e.1↔Z ms e.2))→∀ x,Z (es.foldl mk1 ms) x→Z ms x) ∧
  (∀ C:Int→Prop,(∀ e∈es,(C e.1↔C e.2))→(∀ x,Z ms x→C x)→∀ x,Z (es.foldl mk1 ms) x→C x)
 | [],ms,h,hb=>⟨h,fun x z=>z,fun _ e he=>by simp at he,fun _ x z=>z,fun C _ hc x z=>hc x z⟩
 | e::es,ms,h,hb=>by
  obtain ⟨h1,z1⟩:=mk1_ok h (hb e (by simp)).1 (hb e (by simp)).2
  obtain ⟨g1,g2,g3,g4,g5⟩:=round_ok es h1 fun e' he=>hb e' (by simp [he])
  rw [List.foldl_cons]
  refine ⟨g1,fun x z=>g2 x ((z1 x).mpr (.inl z)),fun hs e' he=>?_,fun hc x z=>?_,fun C cc hC x z=>?_⟩
  ·have hs1:∀ x,Z (mk1 ms e) x→Z ms x:=fun x z=>hs x (g2 x z)
   have same:∀ x,Z (mk1 ms e) x↔Z ms x:=fun x=>⟨hs1 x,fun z=>(z1 x).mpr (.inl z)⟩
   rcases List.mem_cons.mp he with q | q
   ·subst q
    exact ⟨fun z=>hs1 _ ((z1 _).mpr (.inr ⟨.inr rfl,.inl z⟩)),fun z=>hs1 _ ((z1 _).mpr (.inr ⟨.inl rfl,.inr z⟩))⟩
   ·have:=g3 (fun x z=>(same x).mpr (hs x z)) e' q
    rw [same,same] at this
    exact this
  ·have he:=hc e (by simp)
   have same:∀ x,Z (mk1 ms e) x↔Z ms x:=fun x=>by
    rw [z1]
    constructor
    ·rintro (z | ⟨z,w⟩)
     ·exact z
     ·rcases z with z | z
      ·subst z; rcases w with w | w; exact w; exact he.mpr w
      ·subst z; rcases w with w | w; exact he.mp w; exact w
    ·exact .inl
   have:=g4 (fun e' he'=>by rw [same,same]; exact hc e' (by simp [he'])) x z
   exact (same x).mp this
  ·refine g5 C (fun e' he'=>cc e' (by simp [he'])) (fun x z=>?_) x z
   rcases (z1 x).mp z with z | ⟨z,w⟩
   ·exact hC x z
   ·have he:=cc e (by simp)
    rcases z with z | z
    ·subst z; rcases w with w | w; exact hC _ w; exact he.mpr (hC _ w)
    ·subst z; rcases w with w | w; exact he.mp (hC _ w); exact hC _ w
noncomputable def rounds (es:List (Int × Int)):Nat→List Int→List Int
 | 0,ms=>ms
 | n+1,ms=>rounds es n (es.foldl mk1 ms)
noncomputable def zeros (pl:Nat) (ms:List Int):Nat:=((List.range pl).filter fun i=>decide (ms[i]?=some 0)).length
theorem zeros_le (pl:Nat) (ms:List Int):zeros pl ms≤pl:=by
 unfold zeros
 have:=List.length_filter_le (fun i=>decide (ms[i]?=some 0)) (List.range pl)
 simpa using this
theorem zeros_lt {pl:Nat}{ms ns:List Int} (h:∀ x,Z ms x→Z ns x) {x:Int} (hx:Z ns x) (hn:¬ Z ms x) (hl:x<pl):zeros pl ms<zeros pl ns:=by
 unfold zeros
 refine filter_lt (a:=x.toNat) (fun i hi=>?_) ?_ ?_ ?_
 ·have:Z ms i:=⟨by omega,by simpa using hi⟩
  have:=(h i this).2
  simpa using this
 ·rw [List.mem_range]; have:=hx.1; omega
 ·simpa using hx.2
 ·simp only [decide_eq_false_iff_not]
  exact fun z=>hn ⟨hx.1,z⟩
theorem rounds_ok {pl:Nat}{es:List (Int × Int)} (hb:∀ e∈es,(0≤e.1∧e.1<pl)∧0≤e.2∧e.2<pl):∀ (n:Nat) {ms:List Int},MOk pl ms→MOk pl (rounds es n ms)∧(∀ x,Z ms x→Z (rounds es n ms) x) ∧
  ((∀ e∈es,(Z (rounds es n ms) e.1↔Z (rounds es n ms) e.2))∨zeros pl ms+n≤zeros pl (rounds es n ms)) ∧
  (∀ C:Int→Prop,(∀ e∈es,(C e.1↔C e.2))→(∀ x,Z ms x→C x)→∀ x,Z (rounds es n ms) x→C x) ∧
  ((∀ e∈es,(Z ms e.1↔Z ms e.2))→∀ x,Z (rounds es n ms) x→Z ms x)
 | 0,ms,h=>⟨h,fun x z=>z,.inr (Nat.le_refl _),fun C _ hC x z=>hC x z,fun _ x z=>z⟩
 | n+1,ms,h=>by
  obtain ⟨h1,a2,a3,a4,a5⟩:=round_ok es h hb
  obtain ⟨g1,g2,g3,g4,g5⟩:=rounds_ok hb n h1
  show MOk pl (rounds es n (es.foldl mk1 ms))∧_
  refine ⟨g1,fun x z=>g2 x (a2 x z),?_,fun C cc hC x z=>g4 C cc (a5 C cc hC) x z,fun hc x z=>?_⟩
  ·rcases g3 with g3 | g3
   ·exact .inl g3
   ·by_cases hs:∀ x,Z (es.foldl mk1 ms) x→Z ms x
    ·have c0:=a3 hs
     have same:∀ x,Z (es.foldl mk1 ms) x↔Z ms x:=fun x=>⟨hs x,a2 x⟩
     have c1:∀ e∈es,(Z (es.foldl mk1 ms) e.1↔Z (es.foldl mk1 ms) e.2):=fun e he=>by rw [same,same]; exact c0 e he
     have back:=g5 c1
     have same2:∀ x,Z (rounds es n (es.foldl mk1 ms)) x↔Z (es.foldl mk1 ms) x:=fun x=>⟨back x,g2 x⟩
     exact .inl fun e he=>by
      show Z (rounds es n (es.foldl mk1 ms)) e.1↔Z (rounds es n (es.foldl mk1 ms)) e.2
      rw [same2,same2]; exact c1 e he
    ·refine .inr ?_
     have:∃ x,Z (es.foldl mk1 ms) x∧¬ Z ms x:=Classical.byContradiction fun hn=>hs fun x z=>Classical.byContradiction fun hx=>hn ⟨x,z,hx⟩
     obtain ⟨x,zx,nx⟩:=this
     have xl:x<pl:=by
      have:=(List.getElem?_eq_some_iff.mp zx.2).1
      have hl:=h1.len
      have:=zx.1
      omega
     have:=zeros_lt (pl:=pl) a2 zx nx xl
     show zeros pl ms+(n+1)≤zeros pl (rounds es n (es.foldl mk1 ms))
     omega
  ·have c1:∀ e∈es,(Z (es.foldl mk1 ms) e.1↔Z (es.foldl mk1 ms) e.2):=by
    have same:∀ x,Z (es.foldl mk1 ms) x↔Z ms x:=fun x=>⟨a4 hc x,a2 x⟩
    intro e he
    rw [same,same]; exact hc e he
   exact a4 hc x (g5 c1 x z)
theorem marks_ok {pl:Nat}{es:List (Int × Int)} (hp:0<pl) (hb:∀ e∈es,(0≤e.1∧e.1<pl)∧0≤e.2∧e.2<pl):MOk pl (rounds es pl ((List.range pl).map fun (k:Nat)=>(k:Int)))∧Reached es 0 (Z (rounds es pl ((List.range pl).map fun (k:Nat)=>(k:Int)))):=by
 have m0:MOk pl ((List.range pl).map fun (k:Nat)=>(k:Int)):=⟨by simp,fun i x hx=>by
  rw [List.getElem?_map] at hx
  obtain ⟨k,_,rfl⟩:=Option.map_eq_some_iff.mp hx
  omega⟩
 have z0:Z ((List.range pl).map fun (k:Nat)=>(k:Int)) 0:=⟨by omega,by
  show ((List.range pl).map fun (k:Nat)=>(k:Int))[0]?=some 0
  rw [List.getElem?_map,List.getElem?_range hp]; rfl⟩
 have zz:∀ x,Z ((List.range pl).map fun (k:Nat)=>(k:Int)) x→x=0:=fun x hx=>by
  obtain ⟨x0,q⟩:=hx
  rw [List.getElem?_map] at q
  obtain ⟨k,hk,e⟩:=Option.map_eq_some_iff.mp q
  have:=List.getElem?_eq_some_iff.mp hk
  obtain ⟨h1,h2⟩:=this
  simp at h2
  omega
 obtain ⟨g1,g2,g3,g4,g5⟩:=rounds_ok hb pl m0
 refine ⟨g1,g2 0 z0,?_,fun C c0 cc x z=>g4 C cc (fun y hy=>by rw [zz y hy]; exact c0) x z⟩
 rcases g3 with g3 | g3
 ·exact g3
 ·exfalso
  have h1:=zeros_le pl (rounds es pl ((List.range pl).map fun (k:Nat)=>(k:Int)))
  have h2:0<zeros pl ((List.range pl).map fun (k:Nat)=>(k:Int)):=by
   unfold zeros
   rw [List.length_pos_iff]
   intro hn
   have:(0:Nat)∈(List.range pl).filter fun i=>decide (((List.range pl).map fun (k:Nat)=>(k:Int))[i]?=some 0):=by
    rw [List.mem_filter]
    exact ⟨by simpa using hp,by simpa using z0.2⟩
   rw [hn] at this
   cases this
  omega
end Mt
namespace My
open PySem L2 Mt
variable {cl:Nat→CLL}
noncomputable def bitsD (st:List Int):D:=.tup (st.map D.int)
noncomputable def shutB (c:Ct) (st:List Int):Bool:=decide (st.getD c.k.toNat 0=c.o)
theorem atI_ints {l:List Int}{k:Int} (h0:0≤k) (h1:k<l.length):atI (l.map D.int) k=some (.int (l.getD k.toNat 0)):=by
 have e:l[k.toNat]?=some (l.getD k.toNat 0):=by rw [List.getD,List.getElem?_eq_getElem (by omega)]; rfl
 have q:=atI_nat (xs:=l.map D.int) (j:=k.toNat) (v:=.int (l.getD k.toNat 0)) (by rw [List.getElem?_map,e]; rfl)
 rw [show ((k.toNat:Nat):Int)=k by omega] at q
 exact q
noncomputable def enumP {α:Type} (l:List α):List (Nat × α):=(List.range l.length).zip l
theorem enumD_map {α:Type} (e:α→D) (l:List α):enumD (l.map e)=(enumP l).map fun q=>.tup [.int (q.1:Nat),e q.2]:=by
 unfold enumD enumP
 rw [List.length_map,List.zip_map_right,List.map_map]
 rfl
theorem enumP_mem {α:Type}{l:List α}{q:Nat × α} (h:q∈enumP l):l[q.1]?=some q.2:=by
 unfold enumP at h
 obtain ⟨i,hi⟩:=List.getElem?_of_mem h
 rw [List.getElem?_zip_eq_some] at hi
 obtain ⟨h1,h2⟩:=hi
 have:=List.getElem?_eq_some_iff.mp h1
 obtain ⟨h3,h4⟩:=this
 simp at h4
 rw [← h4]; exact h2
theorem enumP_snd {α:Type} (l:List α):(enumP l).map (·.2)=l:=by
 unfold enumP
 exact List.map_snd_zip (by simp)
noncomputable def shutL (cs:List Ct) (st:List Int):List Nat:=((enumP cs).filter fun q=>shutB q.2 st).map (·.1)
noncomputable def natsD (l:List Nat):List D:=l.map fun (k:Nat)=>D.int (k:Nat)
theorem lim_big:(1000:Nat)<lim:=by decide
theorem enumP_len {α:Type} (l:List α):(enumP l).length=l.length:=by unfold enumP; simp
theorem law_shut_spec (h:Hs_law_shut cl) (n:Nat) (N:Net) (st:List Int) (hc:N.cs.length≤100) (hk:∀ c∈N.cs,0≤c.k∧c.k<st.length) (S:Store):cl (n+1) "_law_shut" [N.d,bitsD st] S=.ok (.lst S.length) (S++[.lst (natsD (shutL N.cs st))]):=by
 have e1:loopC [] (.many 2) (law_shut_t1 (cl n)) (law_shut_e1 (cl n)) [none,none,some (bitsD st)] ((enumP N.cs).map fun q=>.tup [.int (q.1:Nat),q.2.d]) S=.ok (((enumP N.cs).filter fun q=>shutB q.2 st).map fun q=>.int (q.1:Nat)) S:=by
  refine comp_pure (fun q:Nat × Ct=>.tup [.int (q.1:Nat),q.2.d]) (okW_nil S) _ _ _ fun q hq=>⟨_,rfl,?_,fun _=>?_⟩
  ·have hm:q.2∈N.cs:=List.mem_of_getElem? (enumP_mem hq)
   simp [law_shut_t1,setAll,Ct.d,bitsD,atI_ints (hk _ hm).1 (hk _ hm).2,shutB]
  ·simp [law_shut_e1,setAll]
 rw [h]
 refine run_rt rfl ?_
 have e2:((enumP N.cs).filter fun q=>shutB q.2 st).map (fun q=>D.int (q.1:Nat))=natsD (shutL N.cs st):=by unfold natsD shutL; rw [List.map_map]; rfl
 rw [e2] at e1
 have e4:(enumP N.cs).length<lim:=by rw [enumP_len]; have:=lim_big; omega
 simp [b_law_shut,startE,Net.d,enumD_map,e1,e4]
noncomputable def ends (cs:List Ct):List (Int × Int):=cs.map fun c=>(c.a,c.b)
noncomputable def jB (es:List (Int × Int)):Bool:=@decide (Joined es) (Classical.propDecidable _)
theorem jB_iff {es:List (Int × Int)}:jB es=true↔Joined es:=by
 exact @decide_eq_true_iff _ (Classical.propDecidable _)
theorem jB_of {es:List (Int × Int)}{b:Bool} (h:b=true↔Joined es):b=jB es:=by
 cases b with
 | true=>exact (jB_iff.mpr (h.mp rfl)).symm
 | false =>
  cases q:jB es with
  | false=>rfl
  | true=>exact absurd (h.mpr (jB_iff.mp q)) Bool.false_ne_true
theorem shutL_lt {cs:List Ct}{st:List Int}{i:Nat} (h:i∈shutL cs st):∃ c,cs[i]?=some c∧shutB c st=true:=by
 unfold shutL at h
 obtain ⟨q,hq,rfl⟩:=List.mem_map.mp h
 rw [List.mem_filter] at hq
 exact ⟨q.2,enumP_mem hq.1,hq.2⟩
theorem shutL_get (cs:List Ct) (st:List Int) (dflt:Ct):(shutL cs st).map (fun i=>cs.getD i dflt)=cs.filter fun c=>shutB c st:=by
 unfold shutL
 rw [List.map_map]
 have:((enumP cs).filter fun q=>shutB q.2 st).map ((fun i=>cs.getD i dflt)∘fun q=>q.1)=((enumP cs).filter fun q=>shutB q.2 st).map (·.2):=by
  refine List.map_congr_left fun q hq=>?_
  rw [List.mem_filter] at hq
  have:=enumP_mem hq.1
  simp [List.getD,this]
 rw [this]
 have h2:cs.filter (fun c=>shutB c st)=((enumP cs).map (·.2)).filter (fun c=>shutB c st):=by rw [enumP_snd]
 rw [h2,List.filter_map]
 rfl
theorem atI_cs {cs:List Ct}{i:Nat}{c:Ct} (h:cs[i]?=some c):atI (cs.map Ct.d) (i:Nat)=some c.d:=atI_nat (by rw [List.getElem?_map,h]; rfl)
noncomputable def letsB (N:Net) (st:List Int):Bool:=jB (ends (N.cs.filter fun c=>shutB c st))
structure SetOk (N:Net) (st:List Int):Prop where
 len:(st.length:Int)=N.sw
theorem Net.ok.ks {ms mp mc:Int}{N:Net} (h:N.ok ms mp mc) {st:List Int} (hs:SetOk N st):∀ c∈N.cs,0≤c.k∧c.k<st.length:=fun c hc=>by
 obtain ⟨_,_,_,h4,h5,_,_⟩:=h.c2 c hc
 rw [hs.len]; exact ⟨h4,h5⟩
theorem Net.ok.len {ms mp mc:Int}{N:Net} (h:N.ok ms mp mc) (hm:mc≤16):N.cs.length≤100:=by have:=h.c1; omega
@[simp] theorem cutD_two (w x y z:D):cutD [w,x,y,z] none (some 2)=[w,x]:=rfl
theorem ixN_ok {n:Nat}{k:Int} (h0:0≤k) (h1:k<n):ixN n k=some k.toNat:=by unfold ixN; rw [if_pos h0,if_pos h1]
theorem rounds_succ (es:List (Int × Int)):∀ (n:Nat) (ms:List Int),rounds es (n+1) ms=es.foldl mk1 (rounds es n ms)
 | 0,ms=>rfl
 | n+1,ms=>rounds_succ es n (es.foldl mk1 ms)
noncomputable def esOf (cs:List Ct) (l:List Nat):List (Int × Int):=l.map fun i=>((cs.getD i ⟨0,0,0,0⟩).a,(cs.getD i ⟨0,0,0,0⟩).b)
theorem esOf_shut (cs:List Ct) (st:List Int):esOf cs (shutL cs st)=ends (cs.filter fun c=>shutB c st):=by
 unfold esOf ends
 rw [← shutL_get cs st ⟨0,0,0,0⟩,List.map_map]
 rfl
def SeqD (S:Store) (x:D) (l:List D):Prop:=x=.tup l∨∃ k,x=.lst k∧lstAt S k=some l
inductive MkO (nd x:D) (k:Nat) (S0:Store) (ms:List Int) (ρ:Env1) (S':Store):Prop
 | mk (v3 v4 v5 v6 v7:Option D) (e:ρ=[some nd,some x,some (.lst k),v3,v4,v5,v6,v7]) (kp:Kp (·=k) S0 S') (hm:lstAt S' k=some (ms.map D.int))
inductive MkI (nd x d:D) (k:Nat) (S0:Store) (ms:List Int) (ρ:Env1) (S':Store):Prop
 | mk (v4 v5 v6 v7:Option D) (e:ρ=[some nd,some x,some (.lst k),some d,v4,v5,v6,v7]) (kp:Kp (·=k) S0 S') (hm:lstAt S' k=some (ms.map D.int))
theorem law_marks_spec (h:Hs_law_marks cl) (n:Nat) {ms mp mc:Int}{N:Net} (ok:N.ok ms mp mc) (hm:mp≤7) (l:List Nat) (hl:∀ i∈l,i<N.cs.length) {S:Store}{x:D} (hx:SeqD S x (natsD l)) :
  ∃ m S1,cl (n+1) "_law_marks" [N.d,x] S=.ok (.lst m) S1∧Ex S S1∧S.length≤m∧lstAt S1 m=some ((rounds (esOf N.cs l) N.pl.toNat ((List.range N.pl.toNat).map fun (k:Nat)=>(k:Int))).map D.int):=by
 have p1:=ok.p1
 have p2:=ok.p2
 have hw:∃ w,∀ S',Ex S S'∨Kp (·=S.length) (S++[.lst (upD 0 N.pl.toNat)]) S'→(∀ ρ:Env1,ρ[1]?=some (some x)→iSeq (cVar 1) ρ S'=.ok (natsD l,w) S')∧okW w S':=by
  rcases hx with rfl | ⟨k,rfl,hk⟩
  ·exact ⟨[],fun S' _=>⟨fun ρ hρ=>by simp [hρ],okW_nil _⟩⟩
  ·refine ⟨[(k,natsD l)],fun S' hS=>?_⟩
   have:lstAt S' k=some (natsD l):=by
    rcases hS with q | q
    ·exact q.lst hk (fun z=>z)
    ·exact q.lst (lstAt_app hk) (by have:=lstAt_lt hk; omega)
   exact ⟨fun ρ hρ=>by simp [hρ,this],okW_one this⟩
 obtain ⟨w,hw⟩:=hw
 have esb:∀ e∈esOf N.cs l,(0≤e.1∧e.1<(N.pl.toNat:Int))∧0≤e.2∧e.2<(N.pl.toNat:Int):=fun e he=>by
  obtain ⟨i,hi,rfl⟩:=List.mem_map.mp he
  have hlt:=hl i hi
  obtain ⟨a1,a2,a3,_⟩:=ok.c2 _ (List.getElem_mem hlt)
  have eg:N.cs.getD i ⟨0,0,0,0⟩=N.cs[i]:=by simp [List.getD,hlt]
  rw [eg]
  dsimp only
  omega
 let ms0:List Int:=(List.range N.pl.toNat).map fun (k:Nat)=>(k:Int)
 have m0:MOk N.pl.toNat ms0:=⟨by simp [ms0],fun i x hx=>by
  rw [List.getElem?_map] at hx
  obtain ⟨k,_,rfl⟩:=Option.map_eq_some_iff.mp hx
  omega⟩
 have u0:upD 0 N.pl.toNat=ms0.map D.int:=by simp [upD,ms0,List.map_map]
 obtain ⟨ρ',S1,e1,v3,v4,v5,v6,v7,rfl,kp,hm1⟩:=loop_inv (w:=[]) (g:=gN 3) (b:=law_marks_l1 (cl n)) (items:=upD 0 N.pl.toNat)
  (fun j=>MkO N.d x S.length (S++[.lst (upD 0 N.pl.toNat)]) (rounds (esOf N.cs l) j ms0))
  (ρ:=[some N.d,some x,some (.lst S.length),none,none,none,none,none]) (S:=S++[.lst (upD 0 N.pl.toNat)])
  (fun j ρ S' hp=>okW_nil _) ⟨none,none,none,none,none,rfl,Kp.refl _ _,by rw [lstAt_new,u0]; rfl⟩
  (fun j d ρ S' hd hp=>by
   obtain ⟨v3,v4,v5,v6,v7,rfl,kp,hm⟩:=hp
   obtain ⟨ix,okw⟩:=hw S' (.inr kp)
   have okj:=(rounds_ok esb j m0).1
   generalize hmj:rounds (esOf N.cs l) j ms0=mj at hm okj
   obtain ⟨ρ2,S2,e2,v4',v5',v6',v7',rfl,kp2,hm2⟩:=loop_inv (w:=w) (g:=gN 4) (b:=law_marks_l2 (cl n)) (items:=natsD l)
    (fun i=>MkI N.d x d S.length (S++[.lst (upD 0 N.pl.toNat)]) ((esOf N.cs (l.take i)).foldl mk1 mj))
    (ρ:=[some N.d,some x,some (.lst S.length),some d,v4,v5,v6,v7]) (S:=S')
    (fun i ρ S2 hp=>by obtain ⟨_,_,_,_,_,kp,_⟩:=hp; exact (hw S2 (.inr kp)).2)
    ⟨v4,v5,v6,v7,rfl,kp,by simpa [esOf] using hm⟩
    (fun i d' ρ S2 hd' hp=>by
     obtain ⟨v4,v5,v6,v7,rfl,kp2,hm2⟩:=hp
     unfold natsD at hd'
     rw [List.getElem?_map] at hd'
     obtain ⟨q,hq,rfl⟩:=Option.map_eq_some_iff.mp hd'
     have hlt:=hl q (List.mem_of_getElem? hq)
     obtain ⟨a1,a2,a3,_⟩:=ok.c2 _ (List.getElem_mem hlt)
     have eg:N.cs.getD q ⟨0,0,0,0⟩=N.cs[q]:=by simp [List.getD,hlt]
     have okm:=(round_ok (esOf N.cs (l.take i)) okj (fun e he=>esb e (by
      obtain ⟨z,hz,rfl⟩:=List.mem_map.mp he
      exact List.mem_map.mpr ⟨z,List.mem_of_mem_take hz,rfl⟩))).1
     have ht:l.take (i+1)=l.take i++[q]:=by rw [List.take_add_one,hq]; rfl
     generalize hmm:(esOf N.cs (l.take i)).foldl mk1 mj=mm at hm2 okm
     have hcs:N.cs[q]?=some N.cs[q]:=List.getElem?_eq_getElem hlt
     generalize hcc:N.cs[q]=c at *
     have lm:(mm.length:Int)=N.pl:=by have:=okm.len; omega
     have g1:=oIx_lst hm2 c.a
     have g2:=oIx_lst hm2 c.b
     rw [atI_ints a1 (by omega)] at g1
     rw [atI_ints (by omega) (by omega)] at g2
     generalize hA:mm.getD c.a.toNat 0=A at g1
     generalize hB:mm.getD c.b.toNat 0=B at g2
     have em:mk1 mm (c.a,c.b)=(mm.set c.a.toNat (if B<A then B else A)).set c.b.toNat (if B<A then B else A):=by unfold mk1; dsimp only; rw [hA,hB]
     generalize hL:(if B<A then B else A)=L at em
     have s1:=oSet_lst hm2 c.a (.int L)
     rw [List.length_map,ixN_ok a1 (by omega)] at s1
     dsimp only at s1
     rw [← List.map_set] at s1
     have hm3:=lstAt_set (ys:=(mm.set c.a.toNat L).map D.int) hm2
     have s2:=oSet_lst hm3 c.b (.int L)
     rw [List.length_map,List.length_set,ixN_ok (by omega) (by omega)] at s2
     dsimp only at s2
     rw [← List.map_set,← em] at s2
     generalize hSa:S2.set S.length (.lst ((mm.set c.a.toNat L).map D.int))=Sa at s1 s2 hm3
     generalize hSb:Sa.set S.length (.lst ((mk1 mm (c.a,c.b)).map D.int))=Sb at s2
     refine ⟨_,_,rfl,_,Sb,.inl ?_,⟨some (.int (q:Nat)),some (.int c.a),some (.int c.b),some (.int L),rfl,?_,?_⟩⟩
     ·simp [law_marks_l2,Net.d,atI_cs hcs,Ct.d,g1,g2,hL,s1,s2]
     ·rw [← hSb,← hSa]; exact (kp2.trans (kp_set _ _)).trans (kp_set _ _)
     ·rw [← hSb,lstAt_set hm3,ht]
      congr 2
      unfold esOf
      rw [List.map_append,List.foldl_append]
      show _=mk1 _ ((N.cs.getD q ⟨0,0,0,0⟩).a,(N.cs.getD q ⟨0,0,0,0⟩).b)
      rw [eg,← hmm]
      rfl)
   refine ⟨_,_,rfl,_,S2,.inl ?_,⟨some d,v4',v5',v6',v7',rfl,kp2,?_⟩⟩
   ·simp only [List.set_cons_succ,List.set_cons_zero]
    have ix':=ix [some N.d,some x,some (.lst S.length),some d,v4,v5,v6,v7] rfl
    simp only [law_marks_l1,sSeq_ev,sFor_ev]
    rw [ix']
    simp [e2]
   ·rw [hm2,rounds_succ,hmj,show (natsD l).length=l.length by unfold natsD; simp,List.take_length])
 rw [upD_len] at hm1
 refine ⟨S.length,S1,?_,⟨by have:=kp.le; simp at this; omega,fun j hj _=>by rw [kp.eq j (by simp; omega) (by omega),List.getElem?_append_left hj]⟩,Nat.le_refl _,hm1⟩
 rw [h]
 refine run_rt rfl ?_
 have f1:fListR [.int N.pl] S=.ok (.lst S.length) (S++[.lst (upD 0 N.pl.toNat)]):=by
  unfold fListR
  dsimp only
  rw [if_pos (by omega)]
 have f2:-4611686018427387904≤N.pl∧N.pl<4611686018427387904:=by omega
 have e1':=e1
 unfold Net.d at e1'
 simp [b_law_marks,startE,Net.d,f1,f2,e1']
theorem law_lets_spec (h:Hs_law_lets cl) (hm:Hs_law_marks cl) (hs:Hs_law_shut cl) (n:Nat) {ms mp mc:Int}{N:Net} (ok:N.ok ms mp mc) (hmp:mp≤7) (hmc:mc≤16) {st:List Int} (hk:∀ c∈N.cs,0≤c.k∧c.k<st.length) (S:Store):Spc (cl (n+2) "_law_lets" [N.d,bitsD st] S) ((.bl (letsB N st))) S:=by
 have e1:=law_shut_spec hs n N st (ok.len hmc) hk S
 obtain ⟨m,S2,e2,x2,_,l2⟩:=law_marks_spec hm n ok hmp (shutL N.cs st) (fun i hi=>by obtain ⟨c,hc,_⟩:=shutL_lt hi; exact (List.getElem?_eq_some_iff.mp hc).1) (S:=S++[.lst (natsD (shutL N.cs st))]) (x:=.lst S.length) (.inr ⟨S.length,rfl,lstAt_new _ _⟩)
 have p1:=ok.p1
 have esb:∀ e∈esOf N.cs (shutL N.cs st),(0≤e.1∧e.1<(N.pl.toNat:Int))∧0≤e.2∧e.2<(N.pl.toNat:Int):=fun e he=>by
  rw [esOf_shut] at he
  obtain ⟨c,hc,rfl⟩:=List.mem_map.mp he
  obtain ⟨a1,a2,a3,_⟩:=ok.c2 c (List.mem_filter.mp hc).1
  dsimp only
  omega
 obtain ⟨mo,re⟩:=marks_ok (pl:=N.pl.toNat) (by omega) esb
 refine ⟨S2,?_,(ex_app _ _).trans x2⟩
 rw [show n+2=(n+1)+1 from rfl,h]
 refine run_rt rfl ?_
 generalize hR:rounds (esOf N.cs (shutL N.cs st)) N.pl.toNat ((List.range N.pl.toNat).map fun (k:Nat)=>(k:Int))=Rr at l2 mo re
 have g1:=oIx_lst l2 1
 rw [atI_ints (by decide) (by have:=mo.len; omega)] at g1
 have hl1:(1:Nat)<Rr.length:=by have:=mo.len; omega
 have e3:decide (Rr.getD (1:Int).toNat 0=0)=letsB N st:=by
  unfold letsB
  rw [← esOf_shut]
  refine jB_of ?_
  rw [decide_eq_true_eq,← re.joined]
  unfold Z
  show Rr.getD 1 0=0↔0≤(1:Int)∧Rr[1]?=some 0
  rw [List.getD,List.getElem?_eq_getElem hl1]
  simp
 generalize Rr.getD (1:Int).toNat 0=v at g1 e3
 simp [b_law_lets,startE,e1,e2,g1,e3]
noncomputable def sett:Nat→List (List Int)
 | 0=>[[]]
 | n+1=>(sett n).map (0::·)++(sett n).map (1::·)
theorem sett_len:∀ n,(sett n).length=2 ^ n
 | 0=>rfl
 | n+1=>by unfold sett; rw [List.length_append,List.length_map,List.length_map,sett_len n,Nat.pow_succ]; omega
theorem sett_each:∀ n,∀ st∈sett n,st.length=n∧∀ b∈st,b=0∨b=1
 | 0,st,h=>by simp [sett] at h; subst h; simp
 | n+1,st,h=>by
  unfold sett at h
  rcases List.mem_append.mp h with q | q
  ·obtain ⟨t,ht,rfl⟩:=List.mem_map.mp q
   obtain ⟨h1,h2⟩:=sett_each n t ht
   exact ⟨by simp [h1],fun b hb=>by rcases List.mem_cons.mp hb with z | z; exact .inl z; exact h2 b z⟩
  ·obtain ⟨t,ht,rfl⟩:=List.mem_map.mp q
   obtain ⟨h1,h2⟩:=sett_each n t ht
   exact ⟨by simp [h1],fun b hb=>by rcases List.mem_cons.mp hb with z | z; exact .inr z; exact h2 b z⟩
theorem pow_small {j:Nat} (h:j≤4):2 ^ j≤16:=Nat.le_trans (Nat.pow_le_pow_right (by decide) h) (by decide)
noncomputable def lsett (sw:Int):List (List Int):=(List.range (1*2 ^ sw.toNat:Int).toNat).map fun (m:Nat)=>(List.range sw.toNat).map fun (k:Nat)=>Builtin.bitAnd ((0+(m:Int)) / 2 ^ (sw - 1 - (0+(k:Int))).toNat) 1
theorem lsett_eq {sw:Int} (h1:1≤sw) (h4:sw≤4):lsett sw=sett sw.toNat:=by
 have:sw=1∨sw=2∨sw=3∨sw=4:=by omega
 rcases this with rfl | rfl | rfl | rfl <;> decide +kernel
theorem law_settings_spec (h:Hs_law_settings cl) (n:Nat) {sw:Int} (h1:1≤sw) (h4:sw≤4) (S:Store):∃ k S1,cl (n+1) "_law_settings" [.int sw] S=.ok (.lst k) S1∧Ex S S1∧S.length≤k∧lstAt S1 k=some ((sett sw.toNat).map bitsD):=by
 rw [← lsett_eq h1 h4]
 have hp:(1*2 ^ sw.toNat:Int)≤16:=by
  have:sw=1∨sw=2∨sw=3∨sw=4:=by omega
  rcases this with rfl | rfl | rfl | rfl <;> decide
 have hp0:(0:Int)≤1*2 ^ sw.toNat:=by
  have:sw=1∨sw=2∨sw=3∨sw=4:=by omega
  rcases this with rfl | rfl | rfl | rfl <;> decide
 let f:Nat→List Int:=fun (m:Nat)=>(List.range sw.toNat).map fun (k:Nat)=>Builtin.bitAnd ((0+(m:Int)) / 2 ^ (sw - 1 - (0+(k:Int))).toNat) 1
 obtain ⟨ρ',S1,e1,v2,rfl,x1,l1⟩:=loop_inv (w:=[]) (g:=gN 2) (b:=law_settings_l1 (cl n)) (items:=upD 0 (1*2 ^ sw.toNat:Int).toNat)
  (fun j ρ S'=>∃ v2,ρ=[some (.int sw),some (.lst S.length),v2]∧Ex S S'∧lstAt S' S.length=some (((List.range j).map f).map bitsD))
  (ρ:=[some (.int sw),some (.lst S.length),none]) (S:=S++[.lst []])
  (fun j ρ S' hp=>okW_nil _) ⟨none,rfl,ex_app _ _,by rw [lstAt_new]; rfl⟩
  (fun j d ρ S' hd hp=>by
   obtain ⟨v2,rfl,x1,l1⟩:=hp
   rw [upD_get] at hd
   obtain ⟨hj,rfl⟩:=hd
   have c1:loopC [] .one (fun _=>ret true) (law_settings_e1 (cl n)) [none,some (.int (0+(j:Int))),some (.int sw)] ((List.range sw.toNat).map fun (k:Nat)=>D.int (0+(k:Nat))) S'=.ok ((List.range sw.toNat).map fun (k:Nat)=>D.int (Builtin.bitAnd ((0+(j:Int)) / 2 ^ (sw - 1 - (0+(k:Int))).toNat) 1)) S':=by
    refine comp_pureM (fun (k:Nat)=>D.int (0+(k:Nat))) (okW_nil S') _ _ fun k hk=>⟨_,rfl,?_⟩
    rw [List.mem_range] at hk
    have q:(0:Int)≤sw - 1 - (0+(k:Int)):=by omega
    generalize (0+(k:Int))=kk at q ⊢
    generalize (0+(j:Int))=jj
    have q':kk≤sw - 1:=by omega
    simp [law_settings_e1,q']
   have hf:(List.range sw.toNat).map (fun (k:Nat)=>D.int (Builtin.bitAnd ((0+(j:Int)) / 2 ^ (sw - 1 - (0+(k:Int))).toNat) 1))=(f j).map D.int:=by rw [List.map_map]; rfl
   rw [hf] at c1
   have x2:=ex_app S' [.lst ((f j).map D.int)]
   have l2:=x2.lst l1 (fun z=>z)
   have t1:=fTuple_lst (lstAt_new S' ((f j).map D.int))
   have a1:=mList_ev l2 gAppend [.tup ((f j).map D.int)]
   have q1:=tyOk_lst l1
   have n1:(((List.range j).map f).map bitsD).length<lim:=by rw [List.length_map,List.length_map,List.length_range,lim_eq]; omega
   refine ⟨_,_,rfl,_,_,.inl ?_,some (.int (0+(j:Int))),rfl,((x1.trans x2).setNew (l:=S.length) (o:=.lst (((List.range j).map f).map bitsD++[.tup ((f j).map D.int)])) (Nat.le_refl _)),?_⟩
   ·have f2:-4611686018427387904≤sw∧sw<4611686018427387904:=by omega
    have f3:sw.toNat<lim:=by rw [lim_eq]; omega
    generalize hB:((List.range j).map f).map bitsD=B at a1 n1
    generalize (f j).map D.int=F at *
    rw [gAppend_ev,if_pos n1] at a1
    dsimp only at a1
    unfold upD at *
    simp only [List.set_cons_succ,List.set_cons_zero]
    generalize (0+(j:Int))=jj at *
    simp [law_settings_l1,q1,f2,upD,f3,-Int.zero_add,c1,t1,a1]
   ·rw [lstAt_set l2,List.range_succ,List.map_append,List.map_append]
    rfl)
 rw [upD_len] at l1
 refine ⟨S.length,S1,?_,x1,Nat.le_refl _,l1⟩
 rw [h]
 refine run_rt rfl ?_
 have f2:-4611686018427387904≤(1*2 ^ sw.toNat:Int)∧(1*2 ^ sw.toNat:Int)<4611686018427387904:=by omega
 have f3:0≤sw∧sw≤1000000∧(1:Int).natAbs<18446744073709551616:=⟨by omega,by omega,by decide⟩
 generalize hpw:(1*2 ^ sw.toNat:Int)=pw at *
 have o1:oShl (.int 1) (.int sw) (S++[.lst []])=.ok (.int pw) (S++[.lst []]):=by rw [oShl_int,if_pos f3,hpw]
 have o2:iRange1 (cArgs [cBin oShl (cCon (.int 1)) (cVar 0)]) [some (.int sw),some (.lst S.length),none] (S++[.lst []])=.ok (upD 0 pw.toNat,[]) (S++[.lst []]):=by
  rw [iRange1_ev,cArgs_cons,cBin_ev,cCon_ev,rbnd_ok,cVar_ev]
  dsimp only [List.getElem?_cons_zero]
  rw [rbnd_ok,o1,rbnd_ok,cArgs_nil,rbnd_ok,rbnd_ok]
  dsimp only
  rw [if_pos f2]
 clear o1 f3 f2
 simp only [b_law_settings,startE,List.map_cons,List.map_nil,sSeq_ev,sAsg_ev,cLst_ev,cArgs_nil,rbnd_ok,rs_ok,gN_ev,sb_nx,sFor_ev]
 rw [show (List.set ([some (D.int sw)]++List.replicate (3 - [D.int sw].length) none) 1 (some (D.lst (List.length S))))=[some (.int sw),some (.lst S.length),none] from rfl,o2,rs_ok]
 dsimp only
 rw [e1,sb_nx,sSeq_ev,sRet_ev,cVar_ev]
 rfl
noncomputable def funP (N:Net):List Int:=(sett N.sw.toNat).map fun st=>if letsB N st then 1 else 0
theorem sett_small {sw:Int} (h4:sw≤4):((sett sw.toNat).map bitsD).length<lim:=by rw [List.length_map,sett_len,lim_eq]; have:=pow_small (j:=sw.toNat) (by omega); omega
theorem law_function_spec (h:Hs_law_function cl) (hll:Hs_law_lets cl) (hm:Hs_law_marks cl) (hs:Hs_law_shut cl) (hls:Hs_law_settings cl) (n:Nat) {ms mp mc:Int}{N:Net} (ok:N.ok ms mp mc) (hms:ms≤4) (hmp:mp≤7) (hmc:mc≤16) (S:Store) :
  Spc (cl (n+3) "_law_function" [N.d] S) ((bitsD (funP N))) S:=by
 have w1:=ok.s1
 have w2:=ok.s2
 obtain ⟨k,S1,e1,x1,_,l1⟩:=law_settings_spec hls (n+1) (sw:=N.sw) w1 (by omega) S
 obtain ⟨S2,e2,x2⟩:=comp_mapM bitsD (w:=[(k,(sett N.sw.toNat).map bitsD)]) (t:=.one) (c:=law_function_e1 (cl (n+2))) (ρ0:=[none,some N.d]) (fun S'=>Ex S1 S') (fun S' x=>okW_one (x.lst l1 fun z=>z)) (fun st=>.int (if letsB N st then 1 else 0)) (sett N.sw.toNat) (Kp.refl _ _)
  (fun st hst S' x=>by
   have hl:=(sett_each _ st hst).1
   obtain ⟨S3,e3,x3⟩:=law_lets_spec hll hm hs n ok hmp hmc (st:=st) (ok.ks ⟨by rw [hl]; omega⟩) S'
   refine ⟨_,rfl,S3,?_,x.trans x3⟩
   simp [law_function_e1,e3])
 have e4:(sett N.sw.toNat).map (fun st=>D.int (if letsB N st then 1 else 0))=(funP N).map D.int:=by unfold funP; rw [List.map_map]; rfl
 rw [e4] at e2
 refine ⟨_,?_,(x1.trans x2).trans (ex_app S2 [.lst ((funP N).map D.int)])⟩
 rw [show n+3=(n+2)+1 from rfl,h]
 refine run_rt rfl ?_
 have ll:=sett_small (sw:=N.sw) (by omega)
 have t1:=fTuple_lst (lstAt_new S2 ((funP N).map D.int))
 have o0:oIx N.d (.int 0) S=.ok (.int N.sw) S:=by simp [Net.d]
 generalize (sett N.sw.toNat).map bitsD=B at *
 simp [b_law_function,startE,o0,e1,l1,ll,e2,t1,bitsD]
noncomputable def isBitD:D→Bool
 | .int i=>decide (0≤i)&&decide (i≤1)
 | _=>false
noncomputable def isIntD:D→Bool
 | .int _=>true
 | _=>false
def Scal (d:D):Prop:=(flat d).isSome=true
theorem is_whole_spec (h:Hs_is_whole cl) (n:Nat) {d:D} (hd:Scal d) (S:Store):cl (n+1) "is_whole" [d] S=.ok (.bl (isIntD d)) S:=by
 rw [h]
 refine run_rt rfl ?_
 cases d with
 | int i=>simp [b_is_whole,startE,isIntD]
 | bl b=>simp [b_is_whole,startE,isIntD]
 | non=>simp [b_is_whole,startE,isIntD]
 | str x=>simp [b_is_whole,startE,isIntD]
 | _=>cases hd
theorem is_bit_spec (h:Hs_is_bit cl) (hw:Hs_is_whole cl) (n:Nat) {d:D} (hd:Scal d) (S:Store):cl (n+2) "is_bit" [d] S=.ok (.bl (isBitD d)) S:=by
 have e:=is_whole_spec hw n hd S
 rw [show n+2=(n+1)+1 from rfl,h]
 refine run_rt rfl ?_
 cases d with
 | int i =>
  by_cases h0:0≤i
  ·simp [b_is_bit,startE,e,isIntD,isBitD,h0]
  ·simp [b_is_bit,startE,e,isIntD,isBitD,h0]
 | bl b=>simp [b_is_bit,startE,e,isIntD,isBitD]
 | non=>simp [b_is_bit,startE,e,isIntD,isBitD]
 | str x=>simp [b_is_bit,startE,e,isIntD,isBitD]
 | _=>cases hd
theorem boolsOf_map:∀ l:List Bool,boolsOf (l.map D.bl)=some l
 | []=>rfl
 | b::r=>by
  show (boolsOf (r.map D.bl)).map (b::·)=_
  rw [boolsOf_map r]; rfl
theorem fAll_ev {S:Store}{k:Nat}{l:List Bool} (h:lstAt S k=some (l.map D.bl)) (g:List Bool→Bool):fBools g [.lst k] S=.ok (.bl (g l)) S:=by
 show (match (lstAt S k).bind boolsOf with | some bs=>R.ok (D.bl (g bs)) S | none=>.bad)=_
 rw [h]
 show (match boolsOf (l.map D.bl) with | some bs=>R.ok (D.bl (g bs)) S | none=>.bad)=_
 rw [boolsOf_map]
@[simp] theorem cutD_three (w x y z:D):cutD [w,x,y,z] none (some 3)=[w,x,y]:=rfl
theorem scal_int (i:Int):Scal (.int i):=rfl
theorem is_contact_spec (h:Hs_is_contact cl) (hb:Hs_is_bit cl) (hw:Hs_is_whole cl) (n:Nat) {sw pl:Int}{c:Ct} (ok:c.ok sw pl) (S:Store):Spc (cl (n+3) "is_contact" [.int sw,.int pl,c.d] S) ((.bl true)) S:=by
 obtain ⟨a0,ab,bp,k0,k1,o0,o1⟩:=ok
 have e2:loopC [] .one (fun _=>ret true) (is_contact_e1 (cl (n+2))) [none] ([c.a,c.b,c.k,c.o].map D.int) S=.ok ([c.a,c.b,c.k,c.o].map fun _=>D.bl true) S:=by
  refine comp_pureM D.int (okW_nil _) _ _ fun y hy=>⟨_,rfl,?_⟩
  have:=is_whole_spec hw (n+1) (scal_int y) S
  simp [is_contact_e1,this,isIntD]
 have e2':loopC [] .one (fun _=>ret true) (is_contact_e1 (cl (n+2))) [none] [.int c.a,.int c.b,.int c.k,.int c.o] S=.ok [.bl true,.bl true,.bl true,.bl true] S:=e2
 have a1:fBools (fun bs=>bs.all id) [.lst S.length] (S++[.lst [.bl true,.bl true,.bl true,.bl true]])=.ok (.bl true) (S++[.lst [.bl true,.bl true,.bl true,.bl true]]):=fAll_ev (l:=[true,true,true,true]) (lstAt_new S _) _
 have x1:=ex_app S [O.lst [.bl true,.bl true,.bl true,.bl true]]
 generalize hS1:S++[O.lst [.bl true,.bl true,.bl true,.bl true]]=S1 at a1 x1
 have b1:=is_bit_spec hb hw n (scal_int c.o) S1
 have b2:isBitD (.int c.o)=true:=by simp [isBitD]; omega
 rw [b2] at b1
 have q4:4<lim:=by decide
 have hch:cChain3 (oCmp fun i j=>decide (i≤j)) oLt oLt (cCon (.int 0)) (cBin oIx (cVar 2) (cCon (.int 0))) (cBin oIx (cVar 2) (cCon (.int 1))) (cVar 1) [some (.int sw),some (.int pl),some (.tup [.int c.a,.int c.b,.int c.k,.int c.o])] S1=.ok true S1:=by
  unfold cChain3
  simp [bnd_ev,a0,ab,bp,ret_ev]
 refine ⟨S1,?_,x1⟩
 rw [show n+3=(n+2)+1 from rfl,h]
 refine run_rt rfl ?_
 simp [b_is_contact,startE,Ct.d,e2',q4,hS1,a1,hch,k0,k1,b1]
theorem is_net_spec (h:Hs_is_net cl) (hc:Hs_is_contact cl) (hb:Hs_is_bit cl) (hw:Hs_is_whole cl) (n:Nat) {N:Net} (ok:N.ok 4 7 16) (S:Store):Spc (cl (n+4) "is_net" [N.d] S) ((.bl true)) S:=by
 have s1:=ok.s1
 have s2:=ok.s2
 have p1:=ok.p1
 have p2:=ok.p2
 have c1:=ok.c1
 have w1:=is_whole_spec hw (n+2) (scal_int N.sw) S
 have w2:=is_whole_spec hw (n+2) (scal_int N.pl) S
 obtain ⟨S2,e2,x2⟩:=comp_mapM Ct.d (w:=[]) (t:=.one) (c:=is_net_e1 (cl (n+3))) (ρ0:=[none,some (.int N.sw),some (.int N.pl)]) (fun S'=>Ex S S') (fun S' x=>okW_nil _) (fun _=>.bl true) N.cs (Kp.refl _ _)
  (fun c hcm S' x=>by
   obtain ⟨S3,e3,x3⟩:=is_contact_spec hc hb hw n (ok.c2 c hcm) S'
   refine ⟨_,rfl,S3,?_,x.trans x3⟩
   simp [is_net_e1,e3])
 have e4:N.cs.map (fun _=>D.bl true)=(N.cs.map fun _=>true).map D.bl:=by rw [List.map_map]; rfl
 rw [e4] at e2
 have a1:=fAll_ev (lstAt_new S2 ((N.cs.map fun _=>true).map D.bl)) (fun bs=>bs.all id)
 have q2:((N.cs.map fun _=>true).all id)=true:=by rw [List.all_map]; simp
 rw [q2] at a1
 have x3:=ex_app S2 [O.lst ((N.cs.map fun _=>true).map D.bl)]
 generalize hS3:S2++[O.lst ((N.cs.map fun _=>true).map D.bl)]=S3 at a1 x3
 have hl:(N.cs.map Ct.d).length<lim:=by rw [List.length_map,lim_eq]; omega
 have hl2:¬ ((16:Int)<((N.cs.map Ct.d).length:Nat)):=by rw [List.length_map]; omega
 have hi:=inst_tup (N.cs.map Ct.d) S
 refine ⟨S3,?_,x2.trans x3⟩
 rw [show n+4=(n+3)+1 from rfl,h]
 refine run_rt rfl ?_
 unfold Net.d
 generalize N.cs.map Ct.d=CS at *
 simp only [isIntD] at w1 w2
 generalize (N.cs.map fun _=>true).map D.bl=B at *
 simp [b_is_net,startE,w1,w2,s1,s2,p1,p2,hl2,hl,e2,hS3,a1]
structure HD (cl:Nat→CLL):Prop where
 st:Hs_law_state cl
 ce:Hs_law_cell_at cl
 ta:Hs_law_take cl
 en:Hs_law_ends cl
 ne:Hs_law_net cl
structure HLf (cl:Nat→CLL):Prop where
 ls:Hs_law_settings cl
 sh:Hs_law_shut cl
 ma:Hs_law_marks cl
 le:Hs_law_lets cl
 fu:Hs_law_function cl
theorem Net.ok.up {ms mp mc ms' mp' mc':Int}{N:Net} (h:N.ok ms mp mc) (h1:ms≤ms') (h2:mp≤mp') (h3:mc≤mc'):N.ok ms' mp' mc':=⟨h.s1,Int.le_trans h.s2 h1,h.p1,Int.le_trans h.p2 h2,Int.le_trans h.c1 h3,h.c2⟩
abbrev Net.g (N:Net):Prop:=N.ok 4 7 16
theorem HLf.fun (F:HLf cl) (n:Nat) {N:Net} (ok:N.g) (S:Store):Spc (cl (n+3) "_law_function" [N.d] S) ((bitsD (funP N))) S :=
 law_function_spec F.fu F.le F.ma F.sh F.ls n ok (by decide) (by decide) (by decide) S
noncomputable def b1 (b:Bool):Int:=if b then 1 else 0
end My
namespace Mt
noncomputable def cutV (v:Int) (x:Int):Int:=if x≤v then 0 else 1
end Mt
namespace Mt
noncomputable def cls (pl:Nat) (m:Nat→Nat) (a:Nat):List Nat:=(List.range pl).filter fun b=>decide (m b=m a)
end Mt
namespace My
open PySem L2 Mt
variable {cl:Nat→CLL}
theorem app_at {S:Store}{n:Nat}{ys:List D}{x:D} (h:lstAt S n=some ys) (hl:ys.length<lim):mList gAppend (.lst n) [x] S=.ok .non (S.set n (.lst (ys++[x]))):=by
 rw [mList_ev h,gAppend_ev,if_pos hl]
end My
namespace Mt
open PySem
noncomputable def fig (n:Nat):Str:=⟨#[48+n]⟩
theorem ten {i:Int} (h0:0≤i) (h9:i<10):i=0∨i=1∨i=2∨i=3∨i=4∨i=5∨i=6∨i=7∨i=8∨i=9:=by omega
theorem fig_of {i:Int} (h0:0≤i) (h9:i<10):Str.ofString (toString i)=fig i.toNat:=by
 rcases ten h0 h9 with rfl | rfl | rfl | rfl | rfl | rfl | rfl | rfl | rfl | rfl <;> decide +kernel
theorem find_fig {i:Int} (h0:0≤i) (h9:i<10):Txt.find (Str.ofString "0123456789") (fig i.toNat)=i:=by
 rcases ten h0 h9 with rfl | rfl | rfl | rfl | rfl | rfl | rfl | rfl | rfl | rfl <;> decide +kernel
noncomputable def inter (c:Nat):List (List Nat)→List Nat
 | []=>[]
 | [x]=>x
 | x::y::r=>x++c::inter c (y::r)
theorem join_list (c:Nat):∀ ws:List Str,(Str.join ⟨#[c]⟩ ws).cps.toList=inter c (ws.map (·.cps.toList))
 | []=>rfl
 | [x]=>rfl
 | x::y::r=>by
  show ((x.cps++#[c])++(Str.join ⟨#[c]⟩ (y::r)).cps).toList=_
  rw [Array.toList_append,Array.toList_append,join_list c (y::r)]
  simp [inter]
theorem app_inj {c:Nat}{A B:List Nat}:∀ {x y:List Nat},c∉x→c∉y→x++c::A=y++c::B→x=y∧A=B
 | [],[],_,_,h=>⟨rfl,by simpa using h⟩
 | [],b::y,_,hy,h=>by
  simp only [List.nil_append,List.cons_append,List.cons.injEq] at h
  exact absurd (by rw [h.1]; exact List.mem_cons_self) hy
 | a::x,[],hx,_,h=>by
  simp only [List.nil_append,List.cons_append,List.cons.injEq] at h
  exact absurd (by rw [h.1]; exact List.mem_cons_self) hx
 | a::x,b::y,hx,hy,h=>by
  simp only [List.cons_append,List.cons.injEq] at h
  obtain ⟨e1,e2⟩:=app_inj (fun z=>hx (List.mem_cons_of_mem _ z)) (fun z=>hy (List.mem_cons_of_mem _ z)) h.2
  exact ⟨by rw [h.1,e1],e2⟩
theorem inter_inj {c:Nat}:∀ {us ws:List (List Nat)},us≠[]→ws≠[]→(∀ u∈us,c∉u)→(∀ w∈ws,c∉w)→inter c us=inter c ws→us=ws
 | [],_,h,_,_,_,_=>absurd rfl h
 | _,[],_,h,_,_,_=>absurd rfl h
 | [u],[w],_,_,_,_,h=>by rw [show u=w from h]
 | [u],w::w2::r,_,_,hu,_,h=>by
  have:u=w++c::inter c (w2::r):=h
  exact absurd (by rw [this]; simp) (hu u List.mem_cons_self)
 | u::u2::r,[w],_,_,_,hw,h=>by
  have:u++c::inter c (u2::r)=w:=h
  exact absurd (by rw [← this]; simp) (hw w List.mem_cons_self)
 | u::u2::us,w::w2::ws,_,_,hu,hw,h=>by
  obtain ⟨e1,e2⟩:=app_inj (hu u List.mem_cons_self) (hw w List.mem_cons_self) h
  have:=inter_inj (us:=u2::us) (ws:=w2::ws) (by simp) (by simp) (fun z hz=>hu z (List.mem_cons_of_mem _ hz)) (fun z hz=>hw z (List.mem_cons_of_mem _ hz)) e2
  rw [e1,this]
theorem split_ne (x y:Str):Txt.split x y≠[]:=by
 unfold Txt.split
 split
 ·simp
 ·split
  ·simp
  ·rw [StrLaws.partsBetween_eq]
   obtain ⟨p,r,e⟩:=StrLaws.partsFrom_ne x y.length 0 (Builtin.Str.occurrences x y 0 x.length (x.length+1))
   rw [e]; simp
theorem str_inj {a b:Str} (h:a.cps.toList=b.cps.toList):a=b:=Str.ext' (Array.toList_inj.mp h)
theorem split_join {c:Nat}{ws:List Str} (hne:ws≠[]) (hf:∀ w∈ws,c∉w.cps.toList):Txt.split (Str.join ⟨#[c]⟩ ws) ⟨#[c]⟩=ws:=by
 have h2:=congrArg (fun s:Str=>s.cps.toList) (StrLaws.join_split (Str.join ⟨#[c]⟩ ws) ⟨#[c]⟩)
 rw [join_list,join_list] at h2
 have h3:=inter_inj (by simpa using split_ne _ _) (by simpa using hne) (fun u hu=>by
  obtain ⟨p,hp,rfl⟩:=List.mem_map.mp hu
  exact StrLaws.split_free _ c p hp) (fun u hu=>by
  obtain ⟨p,hp,rfl⟩:=List.mem_map.mp hu
  exact hf p hp) h2
 exact (List.map_inj_right fun a b e=>str_inj e).mp h3
open Builtin Builtin.Str in
theorem parts_len {x y:Str} (h:2≤(Txt.split x y).length):(partsBetween x (occurrences x y 0 x.length (x.length+1)) y.length).length=(Txt.split x y).length:=by
 unfold Txt.split at h ⊢
 split at h
 ·simp at h
 ·rename_i h1
  split at h
  ·simp at h
  ·rename_i h2
   rw [if_neg h1,if_neg h2]
theorem join_ok {sep:Str}{ws:List Str} (h:(ws.map (·.length)).sum+ws.length*sep.length≤100000):JoinOk sep ws=true:=by
 unfold JoinOk Builtin.Str.tooLong
 have e:=StrLaws.joinTotal sep ws
 have:¬ (ws.toArray.foldl (·+·.length+sep.length) 0)>sizeLine:=by
  rw [show ws.toArray.foldl (·+·.length+sep.length) 0=_ from e,sizeLine_eq]; omega
 rw [decide_eq_false this]; rfl
end Mt
namespace My
open PySem L2 Mt
variable {cl:Nat→CLL}
noncomputable def wdC (c:Ct):Str:=⟨#[48+c.a.toNat,45,48+c.b.toNat,47,48+c.k.toNat,if c.o=1 then 43 else 45]⟩
noncomputable def endW (N:Net):Str:=⟨#[48+N.pl.toNat,58]⟩
noncomputable def wsN (N:Net):List Str:=fig N.sw.toNat::endW N::N.cs.map wdC
noncomputable def bk:Str:=⟨#[32]⟩
noncomputable def txN (N:Net):Str:=Txt.join bk (wsN N)
theorem bk_eq:Str.ofString " "=bk:=rfl
theorem strsD_map:∀ ws:List Str,strsD (ws.map D.str)=some ws
 | []=>rfl
 | w::ws=>by show (strsD (ws.map D.str)).map (w::·)=_; rw [strsD_map ws]; rfl
theorem mJoin_lst {S:Store}{k:Nat}{z:Str}{ws:List Str} (h:lstAt S k=some (ws.map D.str)) (ok:JoinOk z ws=true):mJoin (.str z) [.lst k] S=.ok (.str (Txt.join z ws)) S:=by
 unfold mJoin
 dsimp only
 rw [lstAt_some h]
 dsimp only
 rw [strsD_map]
 dsimp only
 rw [if_pos ok]
theorem fStr_int {i:Int} (h0:0≤i) (h9:i<10) (S:Store):fStr [.int i] S=.ok (.str (fig i.toNat)) S:=by
 have:fStr [.int i] S=if i.natAbs<1000000000000000000 then .ok (.str (Str.ofString (toString i))) S else .bad:=rfl
 rw [this,if_pos (by omega),fig_of h0 h9]
theorem cFmt_int {a:C}{ρ:Env1}{i:Int}{S:Store} (h0:0≤i) (h9:i<10) (h:a ρ S=.ok (.int i) S):cFmt a ρ S=.ok (.str (fig i.toNat)) S:=by
 unfold cFmt
 rw [bnd_ev,h]
 show (if i.natAbs<1000000000000000000 then R.ok (D.str (Str.ofString (toString i))) S else .bad)=_
 rw [if_pos (by omega),fig_of h0 h9]
theorem cFmt_str {a:C}{ρ:Env1}{z:Str}{S:Store} (hl:z.length≤lim) (h:a ρ S=.ok (.str z) S):cFmt a ρ S=.ok (.str z) S:=by
 unfold cFmt
 rw [bnd_ev,h]
 show (if z.length≤lim then R.ok (D.str z) S else .bad)=_
 rw [if_pos hl]
theorem cJS_go {ρ:Env1}{S:Store}:∀ (cs:List C) (ys:List Str) (acc:Str),cs.map (fun c=>c ρ S)=ys.map (fun y=>.ok (.str y) S)→acc.length+(ys.map (·.length)).sum≤lim→cJS cs acc ρ S=.ok (.str (ys.foldl (·++·) acc)) S
 | [],[],acc,_,hl=>by
  unfold cJS
  rw [if_pos (by simpa using hl)]; rfl
 | [],_::_,_,h,_=>by cases h
 | _::_,[],_,h,_=>by cases h
 | c::cs,y::ys,acc,h,hl=>by
  rw [List.map_cons,List.map_cons,List.cons.injEq] at h
  have e:(acc++y).length=acc.length+y.length:=Str.length_append acc y
  rw [List.map_cons,List.sum_cons] at hl
  unfold cJS
  rw [bnd_ev,h.1]
  show (if (acc++y).length≤lim then cJS cs (acc++y) ρ S else .bad)=_
  rw [if_pos (by omega),cJS_go cs ys (acc++y) h.2 (by omega)]
  rfl
structure Cg (c:Ct):Prop where
 a:0≤c.a∧c.a<10
 b:0≤c.b∧c.b<10
 k:0≤c.k∧c.k<10
 o:c.o=0∨c.o=1
theorem cg_of {N:Net} (ok:N.g) {c:Ct} (hc:c∈N.cs):Cg c:=by
 obtain ⟨a0,ab,bp,k0,k1,o0,o1⟩:=ok.c2 c hc
 have:=ok.p2
 have:=ok.s2
 exact ⟨by omega,by omega,by omega,by omega⟩
noncomputable def sgn (o:Int):Str:=if o=1 then ⟨#[43]⟩ else ⟨#[45]⟩
theorem sgn_len (o:Int):(sgn o).length=1:=by unfold sgn; split <;> rfl
theorem wd_fold (c:Ct):[fig c.a.toNat,(⟨#[45]⟩:Str),fig c.b.toNat,⟨#[47]⟩,fig c.k.toNat,sgn c.o].foldl (·++·) Str.empty=wdC c:=by
 unfold sgn wdC fig
 split <;> rfl
theorem ct_run (c:CLL) {d:D}{a b k o:Int}{w:Str}{S:Store} (i0:oIx d (.int 0) S=.ok (.int a) S) (i1:oIx d (.int 1) S=.ok (.int b) S) (i2:oIx d (.int 2) S=.ok (.int k) S) (i3:oIx d (.int 3) S=.ok (.int o) S) (e:cJS [(cFmt (cVar 1)),(cCon (.str (Str.ofString "-"))),(cFmt (cVar 2)),(cCon (.str (Str.ofString "/"))),(cFmt (cVar 3)),(cFmt (cVar 4))] Str.empty [some d,some (.int a),some (.int b),some (.int k),some (.str (sgn o))] S=.ok (.str w) S) :
  b_contact_text c [some d,none,none,none,none] S=.rt (.str w) S:=by
 by_cases ho:o=1
 ·subst ho
  have e':sgn 1=Str.ofString "+":=rfl
  rw [e'] at e
  simp [b_contact_text,i0,i1,i2,i3,e]
 ·have e':sgn o=Str.ofString "-":=by unfold sgn; rw [if_neg ho]; rfl
  rw [e'] at e
  simp [b_contact_text,i0,i1,i2,i3,ho,e]
theorem contact_text_spec (h:Hs_contact_text cl) (n:Nat) {c:Ct} (g:Cg c) (S:Store):cl (n+1) "contact_text" [c.d] S=.ok (.str (wdC c)) S:=by
 have hd:c.d=.tup [.int c.a,.int c.b,.int c.k,.int c.o]:=rfl
 rw [h]
 refine run_rt rfl (ct_run _ (a:=c.a) (b:=c.b) (k:=c.k) (o:=c.o) (by rw [hd]; simp) (by rw [hd]; simp) (by rw [hd]; simp) (by rw [hd]; simp) ?_)
 rw [cJS_go _ [fig c.a.toNat,(⟨#[45]⟩:Str),fig c.b.toNat,⟨#[47]⟩,fig c.k.toNat,sgn c.o] Str.empty ?_ ?_,wd_fold]
 ·simp only [List.map_cons,List.map_nil]
  rw [cFmt_int (i:=c.a) g.a.1 g.a.2 (by simp),cFmt_int (i:=c.b) g.b.1 g.b.2 (by simp),cFmt_int (i:=c.k) g.k.1 g.k.2 (by simp),cFmt_str (z:=sgn c.o) (by rw [sgn_len,lim_eq]; decide) (by simp)]
  rfl
 ·simp only [List.map_cons,List.map_nil,List.sum_cons,List.sum_nil,sgn_len]
  rw [lim_eq]
  show 0+(1+(1+(1+(1+(1+(1+0))))))≤1048576
  decide
noncomputable def hdW (N:Net):Str:=⟨#[48+N.sw.toNat,32,48+N.pl.toNat,58]⟩
theorem hd_fold (N:Net):[fig N.sw.toNat,(⟨#[32]⟩:Str),fig N.pl.toNat,⟨#[58]⟩].foldl (·++·) Str.empty=hdW N:=rfl
theorem nt_run (c:CLL) {nd:D}{sw pl:Int}{hw w:Str}{X:List D}{ws:List D}{S S1 S2:Store} (i0:∀ S,oIx nd (.int 0) S=.ok (.int sw) S) (i1:∀ S,oIx nd (.int 1) S=.ok (.int pl) S) (i2:∀ S,oIx nd (.int 2) S=.ok (.tup X) S)
  (e1:cJS [(cFmt (cVar 1)),(cCon (.str (Str.ofString " "))),(cFmt (cVar 2)),(cCon (.str (Str.ofString ":")))] Str.empty [some nd,some (.int sw),some (.int pl)] S=.ok (.str hw) S) (h1:S++[O.lst [.str hw]]=S1) (lX:X.length<lim) (c1:loopC [] .one (fun _=>ret true) (net_text_e1 c) [none] X S1=.ok ws S1) (h2:S1++[O.lst ws]=S2) (a2:oAdd (.lst S.length) (.lst S1.length) S2=.ok (.lst S2.length) (S2++[O.lst (.str hw::ws)]))
  (j:mJoin (.str (Str.ofString " ")) [.lst S2.length] (S2++[O.lst (.str hw::ws)])=.ok (.str w) (S2++[O.lst (.str hw::ws)])):b_net_text c [some nd,none,none] S=.rt (.str w) (S2++[O.lst (.str hw::ws)]):=by
 have s0:∀ ρ:Env1,stE 1 [] ρ=[none]:=fun _=>rfl
 simp [b_net_text,i0,i1,i2,e1,h1,s0,lX,c1,h2,a2,j,tyOk]
theorem wd_len (c:Ct):(wdC c).length=6:=rfl
theorem ws_sum (cs:List Ct):((cs.map wdC).map (·.length)).sum=6*cs.length:=by
 induction cs with
 | nil=>rfl
 | cons c cs ih=>rw [List.map_cons,List.map_cons,List.sum_cons,ih,wd_len,List.length_cons]; omega
theorem net_text_spec (h:Hs_net_text cl) (hc:Hs_contact_text cl) (n:Nat) {N:Net} (ok:N.g) (S:Store):Spc (cl (n+2) "net_text" [N.d] S) (.str (txN N)) S:=by
 have hl:=ok.c1
 have s1:=ok.s1
 have s2:=ok.s2
 have p1:=ok.p1
 have p2:=ok.p2
 obtain ⟨S1,h1⟩:∃ S1,S++[O.lst [.str (hdW N)]]=S1:=⟨_,rfl⟩
 have e1:cJS [(cFmt (cVar 1)),(cCon (.str (Str.ofString " "))),(cFmt (cVar 2)),(cCon (.str (Str.ofString ":")))] Str.empty [some N.d,some (.int N.sw),some (.int N.pl)] S=.ok (.str (hdW N)) S:=by
  rw [cJS_go _ [fig N.sw.toNat,(⟨#[32]⟩:Str),fig N.pl.toNat,⟨#[58]⟩] Str.empty ?_ ?_,hd_fold]
  ·simp only [List.map_cons,List.map_nil]
   rw [cFmt_int (i:=N.sw) (by omega) (by omega) (by simp),cFmt_int (i:=N.pl) (by omega) (by omega) (by simp)]
   rfl
  ·rw [lim_eq]; show 4≤1048576; decide
 have c1:loopC [] .one (fun _=>ret true) (net_text_e1 (cl (n+1))) [none] (N.cs.map Ct.d) S1=.ok ((N.cs.map wdC).map D.str) S1:=by
  rw [List.map_map]
  exact comp_pureM Ct.d (okW_nil S1) _ N.cs fun c hc'=>⟨_,rfl,by simp [net_text_e1,contact_text_spec hc n (cg_of ok hc') S1]⟩
 obtain ⟨S2,h2⟩:∃ S2,S1++[O.lst ((N.cs.map wdC).map D.str)]=S2:=⟨_,rfl⟩
 have l1:lstAt S2 S.length=some [.str (hdW N)]:=by rw [← h2,← h1]; exact lstAt_app (lstAt_new _ _)
 have l2:lstAt S2 S1.length=some ((N.cs.map wdC).map D.str):=by rw [← h2]; exact lstAt_new _ _
 have a2:oAdd (.lst S.length) (.lst S1.length) S2=.ok (.lst S2.length) (S2++[O.lst (.str (hdW N)::(N.cs.map wdC).map D.str)]):=by
  show (match S2[S.length]?,S2[S1.length]? with | some (.lst xs),some (.lst ys)=>if xs.length+ys.length≤lim then R.ok (D.lst S2.length) (S2++[O.lst (xs++ys)]) else .bad | _,_=>.bad)=_
  rw [lstAt_some l1,lstAt_some l2]
  dsimp only
  rw [if_pos (by simp [lim_eq]; omega)]; rfl
 have j:mJoin (.str (Str.ofString " ")) [.lst S2.length] (S2++[O.lst (.str (hdW N)::(N.cs.map wdC).map D.str)])=.ok (.str (txN N)) (S2++[O.lst (.str (hdW N)::(N.cs.map wdC).map D.str)]):=by
  have tj:Txt.join (Str.ofString " ") (hdW N::N.cs.map wdC)=txN N:=by
   unfold txN wsN Txt.join
   rw [StrLaws.glued_eq_join,StrLaws.glued_eq_join,bk_eq]
   exact StrLaws.join_shift bk (fig N.sw.toNat) (endW N) (N.cs.map wdC)
  have jk:JoinOk (Str.ofString " ") (hdW N::N.cs.map wdC)=true:=join_ok (by
   rw [List.map_cons,List.sum_cons,ws_sum,List.length_cons,List.length_map,show (hdW N).length=4 from rfl,show (Str.ofString " ").length=1 from rfl]
   omega)
  have q:=mJoin_lst (S:=S2++[O.lst (.str (hdW N)::(N.cs.map wdC).map D.str)]) (ws:=hdW N::N.cs.map wdC) (lstAt_new S2 _) jk
  rw [tj] at q
  exact q
 refine ⟨S2++[O.lst (.str (hdW N)::(N.cs.map wdC).map D.str)],?_,?_⟩
 ·rw [show n+2=(n+1)+1 from rfl,h]
  exact run_rt rfl (nt_run _ (fun S=>by simp [Net.d]) (fun S=>by simp [Net.d]) (fun S=>by simp [Net.d]) e1 h1 (by rw [List.length_map,lim_eq]; omega) c1 h2 a2 j)
 ·rw [← h2,← h1]; exact ((ex_app _ _).trans (ex_app _ _)).trans (ex_app _ _)
theorem oAdd_str {x y:Str} (h:x.length+y.length≤1000) (S:Store):oAdd (.str x) (.str y) S=.ok (.str (x++y)) S:=by
 show (if x.length+y.length≤lim then R.ok (D.str (x++y)) S else .bad)=_
 rw [if_pos (by rw [lim_eq]; omega)]
noncomputable def sgL:List D:=[.str (Str.ofString "-"),.str (Str.ofString "+")]
theorem lt_l (c:CLL) {v0:Option D}{q:Nat}{a b k o:Int}{s1 s2 s3 sg t1 t2 t3 t4 w:Str}{S S1 S2:Store} (f1:∀ S,fStr [.int a] S=.ok (.str s1) S) (f2:∀ S,fStr [.int b] S=.ok (.str s2) S) (f3:∀ S,fStr [.int k] S=.ok (.str s3) S) (a1:∀ S,oAdd (.str s1) (.str (Str.ofString "-")) S=.ok (.str t1) S) (a2:∀ S,oAdd (.str t1) (.str s2) S=.ok (.str t2) S) (a3:∀ S,oAdd (.str t2) (.str (Str.ofString "/")) S=.ok (.str t3) S) (a4:∀ S,oAdd (.str t3) (.str s3) S=.ok (.str t4) S)
  (h1:S++[O.lst sgL]=S1) (i1:oIx (.lst S.length) (.int o) S1=.ok (.str sg) S1) (a5:∀ S,oAdd (.str t4) (.str sg) S=.ok (.str w) S) (t:tyOk "list" (.lst q) S=true) (m:mList gAppend (.lst q) [.str w] S1=.ok .non S2) :
  law_net_text_l1 c [v0,some (.lst q),some (.int a),some (.int b),some (.int k),some (.int o)] S=.nx [v0,some (.lst q),some (.int a),some (.int b),some (.int k),some (.int o)] S2:=by
 unfold sgL at h1
 simp [law_net_text_l1,t,f1,f2,f3,a1,a2,a3,a4,h1,i1,a5,m]
theorem ln_run (c:CLL) {nd:D}{sw pl:Int}{s1 s2 w1 w:Str}{X:List D}{v2 v3 v4 v5:Option D}{S S1 S2:Store} (i0:∀ S,oIx nd (.int 0) S=.ok (.int sw) S) (i1:∀ S,oIx nd (.int 1) S=.ok (.int pl) S) (i2:∀ S,oIx nd (.int 2) S=.ok (.tup X) S) (f1:∀ S,fStr [.int sw] S=.ok (.str s1) S) (f2:∀ S,fStr [.int pl] S=.ok (.str s2) S) (a1:∀ S,oAdd (.str s2) (.str (Str.ofString ":")) S=.ok (.str w1) S) (h1:S++[O.lst [.str s1,.str w1]]=S1)
  (e2:loopS [] (gT [gN 2,gN 3,gN 4,gN 5]) (law_net_text_l1 c) X [some nd,some (.lst S.length),none,none,none,none] S1=.nx [some nd,some (.lst S.length),v2,v3,v4,v5] S2) (t:tyOk "str" (.str (Str.ofString " ")) S2=true) (j:mJoin (.str (Str.ofString " ")) [.lst S.length] S2=.ok (.str w) S2) :
  b_law_net_text c [some nd,none,none,none,none,none] S=.rt (.str w) S2:=by
 simp [b_law_net_text,i0,i1,i2,f1,f2,a1,h1,e2,t,j]
inductive LnI (nd:D) (q:Nat) (S0:Store) (N:Net) (j:Nat) (ρ:Env1) (S:Store):Prop
 | mk (v2 v3 v4 v5:Option D) (e:ρ=[some nd,some (.lst q),v2,v3,v4,v5]) (x:Ex S0 S) (l:lstAt S q=some ((fig N.sw.toNat::endW N::(N.cs.take j).map wdC).map D.str))
theorem law_net_text_spec (h:Hs_law_net_text cl) (n:Nat) {N:Net} (ok:N.g) (S:Store):Spc (cl (n+1) "_law_net_text" [N.d] S) (.str (txN N)) S:=by
 have hl:=ok.c1
 have s1:=ok.s1
 have s2:=ok.s2
 have p1:=ok.p1
 have p2:=ok.p2
 have li:=lim_big
 obtain ⟨S1,h1⟩:∃ S1,S++[O.lst [.str (fig N.sw.toNat),.str (endW N)]]=S1:=⟨_,rfl⟩
 obtain ⟨ρ',S2,e2,v2,v3,v4,v5,rfl,x2,l2⟩:=loop_inv (w:=[]) (g:=gT [gN 2,gN 3,gN 4,gN 5]) (b:=law_net_text_l1 (cl n)) (items:=N.cs.map Ct.d) (LnI N.d S.length S N) (ρ:=[some N.d,some (.lst S.length),none,none,none,none]) (S:=S1)
  (fun _ _ _ _=>okW_nil _) ⟨none,none,none,none,rfl,h1▸ex_app _ _,by rw [← h1,lstAt_new]; rfl⟩
  (fun j d ρ S' hd hp=>by
   obtain ⟨v2,v3,v4,v5,rfl,x,l⟩:=hp
   rw [List.getElem?_map] at hd
   obtain ⟨c,hc,rfl⟩:=Option.map_eq_some_iff.mp hd
   have g:=cg_of ok (List.mem_of_getElem? hc)
   have jl:j<N.cs.length:=(List.getElem?_eq_some_iff.mp hc).1
   obtain ⟨T1,ht⟩:∃ T1,S'++[O.lst sgL]=T1:=⟨_,rfl⟩
   have lq:=(ht▸ex_app S' [O.lst sgL]:Ex S' T1).lst l fun z=>z
   have ls:lstAt T1 S'.length=some sgL:=by rw [← ht]; exact lstAt_new _ _
   have i1:oIx (.lst S'.length) (.int c.o) T1=.ok (.str (sgn c.o)) T1:=by
    rw [oIx_lst ls]
    rcases g.o with e | e <;> rw [e] <;> rfl
   have m:=app_at (x:=.str (wdC c)) lq (by rw [List.length_map,List.length_cons,List.length_cons,List.length_map,List.length_take]; omega)
   have ew:((((fig c.a.toNat++(⟨#[45]⟩:Str))++fig c.b.toNat)++(⟨#[47]⟩:Str))++fig c.k.toNat)++sgn c.o=wdC c:=by
    unfold sgn wdC fig
    split <;> rfl
   refine ⟨_,_,rfl,_,_,.inl (lt_l _ (a:=c.a) (b:=c.b) (k:=c.k) (o:=c.o) (fStr_int g.a.1 g.a.2) (fStr_int g.b.1 g.b.2) (fStr_int g.k.1 g.k.2) (fun S=>oAdd_str (y:=⟨#[45]⟩) (by show 1+1≤1000; decide) S) (oAdd_str (by show 2+1≤1000; decide)) (fun S=>oAdd_str (y:=⟨#[47]⟩) (by show 3+1≤1000; decide) S) (oAdd_str (by show 4+1≤1000; decide)) ht i1 (fun S=>by rw [oAdd_str (by rw [sgn_len]; show 5+1≤1000; decide),ew]) (tyOk_lst l) m),⟨_,_,_,_,rfl,?_,?_⟩⟩
   ·exact (x.trans (ht▸ex_app S' [O.lst sgL]:Ex S' T1)).setNew (Nat.le_refl _)
   ·rw [lstAt_set lq,List.take_add_one,hc]
    simp)
 rw [List.length_map,List.take_length] at l2
 have j:mJoin (.str (Str.ofString " ")) [.lst S.length] S2=.ok (.str (txN N)) S2:=by
  rw [mJoin_lst l2 (join_ok ?_)]; rfl
  rw [List.map_cons,List.map_cons,List.sum_cons,List.sum_cons,ws_sum,List.length_cons,List.length_cons,List.length_map,show (fig N.sw.toNat).length=1 from rfl,show (endW N).length=2 from rfl,show (Str.ofString " ").length=1 from rfl]
  omega
 refine ⟨S2,?_,x2⟩
 rw [h]
 exact run_rt rfl (ln_run _ (fun S=>by simp [Net.d]) (fun S=>by simp [Net.d]) (fun S=>by simp [Net.d]) (fStr_int (by omega) (by omega)) (fStr_int (by omega) (by omega)) (fun S=>oAdd_str (y:=⟨#[58]⟩) (by show 1+1≤1000; decide) S) h1 e2 rfl j)
theorem bt_run (c:CLL) {X ws:List D}{w:Str}{S:Store} (lX:X.length<lim) (c1:loopC [] .one (fun _=>ret true) (bits_text_e1 c) [none] X S=.ok ws S) (j:mJoin (.str (Str.ofString "")) [.lst S.length] (S++[O.lst ws])=.ok (.str w) (S++[O.lst ws])):b_bits_text c [some (.tup X)] S=.rt (.str w) (S++[O.lst ws]):=by
 have s0:∀ ρ:Env1,stE 1 [] ρ=[none]:=fun _=>rfl
 simp [b_bits_text,s0,lX,c1,j,tyOk]
theorem lb_run (c:CLL) {X ws:List D}{w:Str}{S:Store} (lX:X.length<lim) (c1:loopC [] .one (fun _=>ret true) (law_bits_text_e1 c) [none] X S=.ok ws S) (j:mJoin (.str (Str.ofString "")) [.lst S.length] (S++[O.lst ws])=.ok (.str w) (S++[O.lst ws])):b_law_bits_text c [some (.tup X)] S=.rt (.str w) (S++[O.lst ws]):=by
 have s0:∀ ρ:Env1,stE 1 [] ρ=[none]:=fun _=>rfl
 simp [b_law_bits_text,s0,lX,c1,j,tyOk]
noncomputable def txB (l:List Int):Str:=Txt.join (Str.ofString "") (l.map fun i=>fig i.toNat)
theorem figs_sum (l:List Int):((l.map fun i=>fig i.toNat).map (·.length)).sum=l.length:=by
 induction l with
 | nil=>rfl
 | cons c cs ih=>rw [List.map_cons,List.map_cons,List.sum_cons,ih,List.length_cons]; show 1+_=_; omega
theorem bits_texts (h:Hs_bits_text cl) (h':Hs_law_bits_text cl) (n:Nat) {l:List Int} (hb:∀ i∈l,0≤i∧i<10) (hl:l.length≤100) (S:Store):Spc (cl (n+1) "bits_text" [bitsD l] S) (.str (txB l)) S∧Spc (cl (n+1) "_law_bits_text" [bitsD l] S) (.str (txB l)) S:=by
 have lX:(l.map D.int).length<lim:=by rw [List.length_map,lim_eq]; omega
 have c1:loopC [] .one (fun _=>ret true) (bits_text_e1 (cl n)) [none] (l.map D.int) S=.ok ((l.map fun i=>fig i.toNat).map D.str) S:=by
  rw [List.map_map]
  exact comp_pureM D.int (okW_nil S) _ l fun i hi=>⟨_,rfl,by simp [bits_text_e1,fStr_int (hb i hi).1 (hb i hi).2]⟩
 have c2:loopC [] .one (fun _=>ret true) (law_bits_text_e1 (cl n)) [none] (l.map D.int) S=.ok ((l.map fun i=>fig i.toNat).map D.str) S:=by
  rw [List.map_map]
  exact comp_pureM D.int (okW_nil S) _ l fun i hi=>⟨_,rfl,by simp [law_bits_text_e1,fStr_int (hb i hi).1 (hb i hi).2]⟩
 have j:mJoin (.str (Str.ofString "")) [.lst S.length] (S++[O.lst ((l.map fun i=>fig i.toNat).map D.str)])=.ok (.str (txB l)) (S++[O.lst ((l.map fun i=>fig i.toNat).map D.str)]):=by
  rw [mJoin_lst (lstAt_new _ _) (join_ok ?_)]; rfl
  rw [figs_sum,show (Str.ofString "").length=0 from rfl]; omega
 refine ⟨⟨S++[O.lst ((l.map fun i=>fig i.toNat).map D.str)],?_,ex_app _ _⟩,⟨S++[O.lst ((l.map fun i=>fig i.toNat).map D.str)],?_,ex_app _ _⟩⟩
 ·rw [h]; exact run_rt rfl (bt_run _ lX c1 j)
 ·rw [h']; exact run_rt rfl (lb_run _ lX c2 j)
theorem figure_spec (h:Hs_figure cl) (n:Nat) {i:Int} (h0:0≤i) (h9:i<10) (S:Store):cl (n+1) "figure" [.str (fig i.toNat)] S=.ok (.int i) S:=by
 rw [h]
 refine run_rt rfl ?_
 have e:mFind (.str (Str.ofString "0123456789")) [.str (fig i.toNat)] S=.ok (.int i) S:=by
  show R.ok (D.int (Txt.find (Str.ofString "0123456789") (fig i.toNat))) S=_
  rw [find_fig h0 h9]
 generalize fig i.toNat=z at *
 simp [b_figure,startE,e,tyOk]
theorem oIx_str {z:Str}{j:Int}{c:Nat} (h:atI z.cps.toList j=some c) (hl:z.length≤1000) (S:Store):oIx (.str z) (.int j) S=.ok (.str ⟨#[c]⟩) S:=by
 show (match atI z.cps.toList j with | some c=>if z.length≤lim then R.ok (D.str ⟨#[c]⟩) S else .bad | none=>.bad)=_
 rw [h]
 dsimp only
 rw [if_pos (by rw [lim_eq]; omega)]
theorem cr_run (c:CLL) {wd:D}{z0 z2 z4 z5:Str}{a b k:Int}{o:Bool}{S:Store} (i0:oIx wd (.int 0) S=.ok (.str z0) S) (i2:oIx wd (.int 2) S=.ok (.str z2) S) (i4:oIx wd (.int 4) S=.ok (.str z4) S) (i5:oIx wd (.int 5) S=.ok (.str z5) S) (e0:c "figure" [.str z0] S=.ok (.int a) S) (e2:c "figure" [.str z2] S=.ok (.int b) S) (e4:c "figure" [.str z4] S=.ok (.int k) S) (q:oEq (.str z5) (.str (Str.ofString "+")) S=.ok (.bl o) S) :
  b_contact_read c [some wd] S=.rt (.tup [.int a,.int b,.int k,.int (if o then 1 else 0)]) S:=by
 cases o <;> simp [b_contact_read,i0,i2,i4,i5,e0,e2,e4,q]
theorem contact_read_spec (h:Hs_contact_read cl) (hf:Hs_figure cl) (n:Nat) {c:Ct} (g:Cg c) (S:Store):cl (n+2) "contact_read" [.str (wdC c)] S=.ok c.d S:=by
 have hd:c.d=.tup [.int c.a,.int c.b,.int c.k,.int c.o]:=rfl
 have l6:(wdC c).length≤1000:=by rw [wd_len]; decide
 have q:oEq (.str (⟨#[if c.o=1 then 43 else 45]⟩:Str)) (.str (Str.ofString "+")) S=.ok (.bl (decide (c.o=1))) S:=by
  show R.ok (D.bl (decide ((⟨#[if c.o=1 then 43 else 45]⟩:Str)=Str.ofString "+"))) S=_
  rcases g.o with e | e <;> rw [e] <;> rfl
 have eo:(if decide (c.o=1)=true then (1:Int) else 0)=c.o:=by
  rcases g.o with e | e <;> rw [e] <;> rfl
 rw [show n+2=(n+1)+1 from rfl,h,hd]
 have r:=cr_run (cl (n+1)) (wd:=.str (wdC c)) (oIx_str (j:=0) rfl l6 S) (oIx_str (j:=2) rfl l6 S) (oIx_str (j:=4) rfl l6 S) (oIx_str (j:=5) rfl l6 S) (figure_spec hf n g.a.1 g.a.2 S) (figure_spec hf n g.b.1 g.b.2 S) (figure_spec hf n g.k.1 g.k.2 S) q
 rw [eo] at r
 exact run_rt rfl r
theorem fLen_str {z:Str} (h:z.length≤1000) (S:Store):fLen [.str z] S=.ok (.int (z.length:Int)) S:=by
 show (if z.length≤lim then R.ok (D.int (z.length:Int)) S else .bad)=_
 rw [if_pos (by rw [lim_eq]; omega)]
theorem hl_run (c:CLL) {k:Nat}{len:Int}{z0 z1:D}{X ws:List D}{S S1:Store} (f:fLen [.lst k] S=.ok (.int len) S) (h2:¬ len<2) (i0:oIx (.lst k) (.int 0) S=.ok z0 S) (i1:oIx (.lst k) (.int 1) S=.ok z1 S) (f0:fLen [z0] S=.ok (.int 1) S) (f1:fLen [z1] S=.ok (.int 2) S) (sl:oSl (.lst k) (some 2) none S=.ok (.lst S.length) S1) (l1:lstAt S1 S.length=some X) (lX:X.length<lim)
  (c1:loopC [(S.length,X)] .one (fun _=>ret true) (has_lengths_of_net_e1 c) [none] X S1=.ok ws S1) (b:fBools (fun bs=>bs.all id) [.lst S1.length] (S1++[O.lst ws])=.ok (.bl true) (S1++[O.lst ws])) :
  b_has_lengths_of_net c [some (.lst k)] S=.rt (.bl true) (S1++[O.lst ws]):=by
 have s0:∀ ρ:Env1,stE 1 [] ρ=[none]:=fun _=>rfl
 simp [b_has_lengths_of_net,f,h2,i0,i1,f0,f1,sl,l1,s0,lX,c1,b]
theorem cut2 (a b:D) (r:List D):cutD (a::b::r) (some 2) none=r:=by
 have:=cutD_drop (a::b::r) (k:=2) (by decide)
 rw [this]; rfl
theorem boolsOf_true:∀ l:List Str,boolsOf (l.map fun _=>D.bl true)=some (l.map fun _=>true)
 | []=>rfl
 | _::r=>by
  show (boolsOf (r.map fun _=>D.bl true)).map (_::·)=_
  rw [boolsOf_true r]; rfl
theorem fBools_t {S:Store}{n:Nat}{l:List Str} (h:lstAt S n=some (l.map fun _=>D.bl true)):fBools (fun bs=>bs.all id) [.lst n] S=.ok (.bl true) S:=by
 unfold fBools
 dsimp only
 rw [h]
 show (match boolsOf (l.map fun _=>D.bl true) with | some bs=>R.ok (D.bl (bs.all id)) S | none=>.bad)=_
 rw [boolsOf_true]
 have:(l.map fun _=>true).all id=true:=by rw [List.all_map]; exact List.all_eq_true.mpr fun _ _=>rfl
 dsimp only
 rw [this]
theorem ix_01 {S:Store}{k:Nat}{a b:D}{r:List D} (l:lstAt S k=some (a::b::r)):oIx (.lst k) (.int 0) S=.ok a S∧oIx (.lst k) (.int 1) S=.ok b S:=by
 have e0:=oIx_lst l ((0:Nat):Int)
 have e1:=oIx_lst l ((1:Nat):Int)
 rw [atI_nat (v:=a) rfl] at e0
 rw [atI_nat (v:=b) rfl] at e1
 exact ⟨e0,e1⟩
theorem lengths_spec (h:Hs_has_lengths_of_net cl) (n:Nat) {N:Net} (ok:N.g) {S:Store}{k:Nat} (l:lstAt S k=some ((wsN N).map D.str)):∃ S1,cl (n+1) "has_lengths_of_net" [.lst k] S=.ok (.bl true) S1∧Ex S S1:=by
 have hl:=ok.c1
 have lw:(wsN N).map D.str=.str (fig N.sw.toNat)::.str (endW N)::(N.cs.map wdC).map D.str:=rfl
 rw [lw] at l
 have sl:=oSl_lst l (some 2) none
 rw [cut2] at sl
 obtain ⟨S1,h1⟩:∃ S1,S++[O.lst ((N.cs.map wdC).map D.str)]=S1:=⟨_,rfl⟩
 rw [h1] at sl
 have l1:lstAt S1 S.length=some ((N.cs.map wdC).map D.str):=by rw [← h1]; exact lstAt_new _ _
 have c1:loopC [(S.length,(N.cs.map wdC).map D.str)] .one (fun _=>ret true) (has_lengths_of_net_e1 (cl n)) [none] ((N.cs.map wdC).map D.str) S1=.ok ((N.cs.map wdC).map fun _=>D.bl true) S1:=by
  refine comp_pureM D.str (okW_one l1) (fun _=>D.bl true) (N.cs.map wdC) fun w hw=>⟨_,rfl,?_⟩
  obtain ⟨c,_,rfl⟩:=List.mem_map.mp hw
  have:=fLen_str (z:=wdC c) (by rw [wd_len]; decide) S1
  rw [wd_len] at this
  generalize wdC c=z at *
  simp [has_lengths_of_net_e1,this]
 have b:fBools (fun bs=>bs.all id) [.lst S1.length] (S1++[O.lst ((N.cs.map wdC).map fun _=>D.bl true)])=.ok (.bl true) (S1++[O.lst ((N.cs.map wdC).map fun _=>D.bl true)]):=by
  exact fBools_t (lstAt_new S1 _)
 refine ⟨S1++[O.lst ((N.cs.map wdC).map fun _=>D.bl true)],?_,(h1▸ex_app _ _:Ex S S1).trans (ex_app _ _)⟩
 rw [h]
 exact run_rt rfl (hl_run _ (fLen_lst l) (by rw [List.length_cons,List.length_cons]; omega) (ix_01 l).1 (ix_01 l).2 (fLen_str (z:=fig N.sw.toNat) (by show 1≤1000; decide) S) (fLen_str (z:=endW N) (by show 2≤1000; decide) S) sl l1 (by rw [List.length_map,List.length_map,lim_eq]; omega) c1 b)
structure HRd (cl:Nat→CLL):Prop where
 fi:Hs_figure cl
 hl:Hs_has_lengths_of_net cl
 cr:Hs_contact_read cl
 nr:Hs_net_read cl
 nt:Hs_net_text cl
 ct:Hs_contact_text cl
 ins:Hs_is_net cl
 ic:Hs_is_contact cl
 ib:Hs_is_bit cl
 iw:Hs_is_whole cl
theorem ws_free (N:Net):∀ w∈wsN N,32∉w.cps.toList:=fun w hw=>by
 unfold wsN at hw
 rcases List.mem_cons.mp hw with rfl | hw
 ·show 32∉[48+N.sw.toNat]
  simp only [List.mem_singleton]; omega
 ·rcases List.mem_cons.mp hw with rfl | hw
  ·show 32∉[48+N.pl.toNat,58]
   simp only [List.mem_cons,List.not_mem_nil,or_false]; omega
  ·obtain ⟨c,_,rfl⟩:=List.mem_map.mp hw
   show 32∉[48+c.a.toNat,45,48+c.b.toNat,47,48+c.k.toNat,if c.o=1 then 43 else 45]
   simp only [List.mem_cons,List.not_mem_nil,or_false]
   split <;> omega
theorem tx_split (N:Net):Txt.split (txN N) bk=wsN N:=by
 unfold txN Txt.join
 rw [StrLaws.glued_eq_join]
 exact split_join (c:=32) (by simp [wsN]) (ws_free N)
theorem tx_len {N:Net} (ok:N.g):(txN N).length≤1000:=by
 have hl:=ok.c1
 unfold txN Txt.join
 rw [StrLaws.glued_eq_join]
 refine Nat.le_trans (StrLaws.join_length_le bk (wsN N)) ?_
 unfold wsN
 rw [List.map_cons,List.map_cons,List.sum_cons,List.sum_cons,ws_sum,List.length_cons,List.length_cons,List.length_map,show (fig N.sw.toNat).length=1 from rfl,show (endW N).length=2 from rfl,show bk.length=1 from rfl]
 omega
theorem split_spec {N:Net} (ok:N.g) (S:Store):mSplit (.str (txN N)) [.str (Str.ofString " ")] S=.ok (.lst S.length) (S++[O.lst ((wsN N).map D.str)]):=by
 have e:=tx_split N
 have p:=parts_len (x:=txN N) (y:=bk) (by rw [e]; simp [wsN])
 have l1:=tx_len ok
 have hl:=ok.c1
 unfold mSplit
 dsimp only
 rw [bk_eq,if_pos ⟨rfl,by rw [lim_eq]; omega,by rw [p,e,lim_eq]; simp [wsN]; omega⟩,e]
theorem nr_run (c:CLL) {td:Str}{k:Nat}{z0 z1 z2:Str}{sw pl:Int}{X ws:List D}{S S1 S2 S3 S4 S5 S6:Store} (t:fInst [.str td,.ty "str"] S=.ok (.bl true) S) (ty:tyOk "str" (.str td) S=true) (sp:mSplit (.str td) [.str (Str.ofString " ")] S=.ok (.lst k) S1) (e1:c "has_lengths_of_net" [.lst k] S1=.ok (.bl true) S2) (i0:oIx (.lst k) (.int 0) S2=.ok (.str z0) S2) (f0:c "figure" [.str z0] S2=.ok (.int sw) S2) (i1:oIx (.lst k) (.int 1) S2=.ok (.str z1) S2) (i2:oIx (.str z1) (.int 0) S2=.ok (.str z2) S2) (f1:c "figure" [.str z2] S2=.ok (.int pl) S2)
  (sl:oSl (.lst k) (some 2) none S2=.ok (.lst S2.length) S3) (l3:lstAt S3 S2.length=some X) (lX:X.length<lim) (c1:loopC [(S2.length,X)] .one (fun _=>ret true) (net_read_e1 c) [none] X S3=.ok ws S3) (h4:S3++[O.lst ws]=S4) (tp:fTuple [.lst S3.length] S4=.ok (.tup ws) S4) (e5:c "is_net" [.tup [.int sw,.int pl,.tup ws]] S4=.ok (.bl true) S5) (e6:c "net_text" [.tup [.int sw,.int pl,.tup ws]] S5=.ok (.str td) S6) (q:oNe (.str td) (.str td) S6=.ok (.bl false) S6) :
  b_net_read c [some (.str td),none,none] S=.rt (.tup [.int sw,.int pl,.tup ws]) S6:=by
 have s0:∀ ρ:Env1,stE 1 [] ρ=[none]:=fun _=>rfl
 simp [b_net_read,t,ty,sp,e1,i0,f0,i1,i2,f1,sl,l3,lX,s0,c1,h4,tp,e5,e6,q]
theorem net_read_spec (H:HRd cl) (n:Nat) {N:Net} (ok:N.g) (S:Store):Spc (cl (n+5) "net_read" [.str (txN N)] S) N.d S:=by
 have hl:=ok.c1
 have s1:=ok.s1
 have s2:=ok.s2
 have p1:=ok.p1
 have p2:=ok.p2
 have sp:=split_spec ok S
 obtain ⟨S1,h1⟩:∃ S1,S++[O.lst ((wsN N).map D.str)]=S1:=⟨_,rfl⟩
 rw [h1] at sp
 have l1:lstAt S1 S.length=some ((wsN N).map D.str):=by rw [← h1]; exact lstAt_new _ _
 obtain ⟨S2,e1,x2⟩:=lengths_spec H.hl (n+3) ok l1
 have l2:lstAt S2 S.length=some (.str (fig N.sw.toNat)::.str (endW N)::(N.cs.map wdC).map D.str):=x2.lst l1 fun z=>z
 have sl:=oSl_lst l2 (some 2) none
 rw [cut2] at sl
 obtain ⟨S3,h3⟩:∃ S3,S2++[O.lst ((N.cs.map wdC).map D.str)]=S3:=⟨_,rfl⟩
 rw [h3] at sl
 have l3:lstAt S3 S2.length=some ((N.cs.map wdC).map D.str):=by rw [← h3]; exact lstAt_new _ _
 have c1:loopC [(S2.length,(N.cs.map wdC).map D.str)] .one (fun _=>ret true) (net_read_e1 (cl (n+4))) [none] ((N.cs.map wdC).map D.str) S3=.ok (N.cs.map Ct.d) S3:=by
  have:=comp_pureM (fun c=>D.str (wdC c)) (w:=[(S2.length,(N.cs.map wdC).map D.str)]) (t:=.one) (c:=net_read_e1 (cl (n+4))) (ρ0:=[none]) (S:=S3) (okW_one l3) Ct.d N.cs fun c hc=>⟨_,rfl,by
   have e:=contact_read_spec H.cr H.fi (n+2) (cg_of ok hc) S3
   generalize wdC c=z at *
   simp [net_read_e1,e]⟩
  rw [List.map_map] at this ⊢
  exact this
 obtain ⟨S4,h4⟩:∃ S4,S3++[O.lst (N.cs.map Ct.d)]=S4:=⟨_,rfl⟩
 have tp:fTuple [.lst S3.length] S4=.ok (.tup (N.cs.map Ct.d)) S4:=by rw [← h4]; exact fTuple_lst (lstAt_new _ _)
 obtain ⟨S5,e5,x5⟩:=is_net_spec H.ins H.ic H.ib H.iw n (N:=N) ok S4
 obtain ⟨S6,e6,x6⟩:=net_text_spec H.nt H.ct (n+2) ok S5
 have q:oNe (.str (txN N)) (.str (txN N)) S6=.ok (.bl false) S6:=by
  show R.ok (D.bl (!decide (txN N=txN N))) S6=_
  rw [decide_eq_true rfl]; rfl
 refine ⟨S6,?_,(h1▸ex_app _ _:Ex S S1).trans (x2.trans ((h3▸ex_app _ _:Ex S2 S3).trans ((h4▸ex_app _ _:Ex S3 S4).trans (x5.trans x6))))⟩
 rw [show n+5=(n+4)+1 from rfl,H.nr]
 exact run_rt rfl (nr_run _ rfl rfl sp e1 (ix_01 l2).1 (figure_spec H.fi (n+3) (by omega) (by omega) S2) (ix_01 l2).2 (oIx_str (c:=48+N.pl.toNat) rfl (by show 2≤1000; decide) S2) (figure_spec H.fi (n+3) (i:=N.pl) (by omega) (by omega) S2) sl l3 (by rw [List.length_map,List.length_map,lim_eq]; omega) c1 h4 tp e5 e6 q)
theorem lp_int (h:Hs_law_plain cl) (n:Nat) (i:Int) (S:Store):cl (n+1) "_law_plain" [.int i] S=.ok (.bl true) S:=by
 rw [h]
 exact run_rt rfl (by simp [b_law_plain,startE])
theorem lp_run (c:CLL) {X:List D}{S S1 S2 S3:Store} (lX:X.length<lim) (e:loopC [] .one (law_plain_t1 c) (law_plain_e1 c) [none] X S=.ok [] S1) (h2:S1++[O.lst []]=S2) (h3:S2++[O.lst []]=S3) (q:oEq (.lst S1.length) (.lst S2.length) S3=.ok (.bl true) S3):b_law_plain c [some (.tup X)] S=.rt (.bl true) S3:=by
 have s0:∀ ρ:Env1,stE 1 [] ρ=[none]:=fun _=>rfl
 simp [b_law_plain,inst_tup,s0,lX,e,h2,h3,q]
theorem lp_tup (h:Hs_law_plain cl) (n:Nat) {X:List D} (lX:X.length≤1000) (hx:∀ d∈X,∀ S,Spc (cl n "_law_plain" [d] S) (.bl true) S) (S:Store):Spc (cl (n+1) "_law_plain" [.tup X] S) (.bl true) S:=by
 obtain ⟨S1,e1,x1⟩:=comp_goM (fun d:D=>d) (w:=[]) (t:=.one) (tc:=law_plain_t1 (cl n)) (c:=law_plain_e1 (cl n)) (ρ0:=[none]) (fun S'=>Ex S S') (fun S' _=>okW_nil _) (fun _=>false) (fun d=>d) X (Kp.refl _ _)
  (fun d hd S' x=>by
   obtain ⟨S2,e2,x2⟩:=hx d hd S'
   exact ⟨_,rfl,S2,by simp [law_plain_t1,e2],fun _=>x.trans x2,fun z=>by cases z⟩)
 rw [show X.filter (fun _=>false)=[] from List.filter_eq_nil_iff.mpr fun _ _=>by simp] at e1
 have e1':loopC [] .one (law_plain_t1 (cl n)) (law_plain_e1 (cl n)) [none] X S=.ok [] S1:=by
  have:=e1; rw [List.map_id'] at this; exact this
 obtain ⟨S2,h2⟩:∃ S2,S1++[O.lst []]=S2:=⟨_,rfl⟩
 obtain ⟨S3,h3⟩:∃ S3,S2++[O.lst []]=S3:=⟨_,rfl⟩
 have q:oEq (.lst S1.length) (.lst S2.length) S3=.ok (.bl true) S3:=by
  rw [← h3,← h2,oEq_lst (lstAt_app (lstAt_new S1 [])) (lstAt_new _ []) rfl rfl]
  rw [show eqB ([]:List D) []=true from eqB_iff.mpr rfl]
 refine ⟨S3,?_,x1.trans ((h2▸ex_app _ _:Ex S1 S2).trans (h3▸ex_app _ _:Ex S2 S3))⟩
 rw [h]
 exact run_rt rfl (lp_run _ (by rw [lim_eq]; omega) e1' h2 h3 q)
theorem lp_net (h:Hs_law_plain cl) (n:Nat) {N:Net} (ok:N.g) (S:Store):Spc (cl (n+4) "_law_plain" [N.d] S) (.bl true) S:=by
 have hl:=ok.c1
 have int:∀ (m:Nat) (i:Int) (S:Store),Spc (cl (m+1) "_law_plain" [.int i] S) (.bl true) S:=fun m i S=>⟨S,lp_int h m i S,Kp.refl _ _⟩
 have ctc:∀ (c:Ct) (S:Store),Spc (cl (n+2) "_law_plain" [c.d] S) (.bl true) S:=fun c S=>lp_tup h (n+1) (X:=[.int c.a,.int c.b,.int c.k,.int c.o]) (by simp) (fun d hd S=>by
  simp only [List.mem_cons,List.not_mem_nil,or_false] at hd
  rcases hd with rfl | rfl | rfl | rfl <;> exact int n _ S) S
 have cs:∀ S:Store,Spc (cl (n+3) "_law_plain" [.tup (N.cs.map Ct.d)] S) (.bl true) S:=fun S=>lp_tup h (n+2) (by rw [List.length_map]; omega) (fun d hd S=>by
  obtain ⟨c,_,rfl⟩:=List.mem_map.mp hd
  exact ctc c S) S
 exact lp_tup h (n+3) (X:=[.int N.sw,.int N.pl,.tup (N.cs.map Ct.d)]) (by simp) (fun d hd S=>by
  simp only [List.mem_cons,List.not_mem_nil,or_false] at hd
  rcases hd with rfl | rfl | rfl
  ·exact int (n+2) _ S
  ·exact int (n+2) _ S
  ·exact cs S) S
structure HL91 (cl:Nat→CLL):Prop where
 d:HD cl
 f:HLf cl
 r:HRd cl
 bt:Hs_bits_text cl
 lb:Hs_law_bits_text cl
 lt:Hs_law_net_text cl
 lp:Hs_law_plain cl
theorem ne_net (N:Net) (S:Store):oNe N.d N.d S=.ok (.bl false) S:=by
 have p:plain 40 N.d=true:=plain_tup (n:=39) fun x hx=>by
  simp only [List.mem_cons,List.not_mem_nil,or_false] at hx
  rcases hx with rfl | rfl | rfl
  ·exact plain_int (by decide) _
  ·exact plain_int (by decide) _
  ·exact plain_tup (n:=38) fun y hy=>by
    obtain ⟨c,_,rfl⟩:=List.mem_map.mp hy
    exact plain_tup (n:=37) fun z hz=>by
     simp only [List.mem_cons,List.not_mem_nil,or_false] at hz
     rcases hz with rfl | rfl | rfl | rfl <;> exact plain_int (by decide) _
 rw [oNe_plain S p p,show eqB N.d N.d=true from eqB_iff.mpr rfl]; rfl
theorem ne_txt (z:Str) (S:Store):oNe (.str z) (.str z) S=.ok (.bl false) S:=by
 show R.ok (D.bl (!decide (z=z))) S=_
 rw [decide_eq_true rfl]; rfl
theorem l91_run (c:CLL) {sc jd nd fd td bd:D}{i0:Nat}{w2 w3 w4:Option D}{S S1 S2 S3 S4 S5 S6 S7 S8 S9 S10:Store} (e1:c "_law_state" [sc,jd] S=.ok (.lst i0) S1) (e2:c "_law_net" [.lst i0,.int 4,.int 7,.int 16] S1=.ok nd S2) (e3:c "net_text" [nd] S2=.ok td S3) (e4:c "_law_net_text" [nd] S3=.ok td S4) (q4:oNe td td S4=.ok (.bl false) S4) (e5:c "_law_function" [nd] S4=.ok fd S5) (e6:c "bits_text" [fd] S5=.ok bd S6) (e7:c "_law_bits_text" [fd] S6=.ok bd S7) (q7:oNe bd bd S7=.ok (.bl false) S7) (e8:c "_law_net_text" [nd] S7=.ok td S8) (e9:c "net_read" [td] S8=.ok nd S9) (q9:oNe nd nd S9=.ok (.bl false) S9) (e10:c "_law_plain" [nd] S9=.ok (.bl true) S10) :
  law_v36_l1 c [some sc,some jd,w2,w3,w4] S=.nx [some sc,some jd,some nd,some fd,some nd] S10:=by
 simp [law_v36_l1,e1,e2,e3,e4,q4,e5,e6,e7,q7,e8,e9,q9,e10]
theorem row91 (H:HL91 cl) (n:Nat) (ns:List Int) {sc:D} (hsc:D.rol (ns.map D.int)=sc) (jj:Int) (hj:0≤jj) (S:Store) (w2 w3 w4:Option D):∃ v2 v3 v4 S',law_v36_l1 (cl (n+8)) [some sc,some (.int jj),w2,w3,w4] S=.nx [some sc,some (.int jj),v2,v3,v4] S':=by
 obtain ⟨S1,e1,x1,st1⟩:=state_spec H.d.st H.d.ce (n+6) ns jj hj S
 rw [hsc] at e1
 obtain ⟨N,S2,e2,okN,k2,st2⟩:=net_spec H.d.ne H.d.en H.d.ta (n+5) st1 (ms:=4) (mp:=7) (mc:=16) (by decide) (by decide) (by decide)
 have ok:N.g:=okN.up (by decide) (by decide) (by decide)
 obtain ⟨S3,e3,_⟩:=net_text_spec H.r.nt H.r.ct (n+6) ok S2
 obtain ⟨S4,e4,_⟩:=law_net_text_spec H.lt (n+7) ok S3
 obtain ⟨S5,e5,_⟩:=H.f.fun (n+5) ok S4
 have hb:∀ i∈funP N,0≤i∧i<10:=fun i hi=>by
  unfold funP at hi
  obtain ⟨st,_,rfl⟩:=List.mem_map.mp hi
  split <;> decide
 have hlen:(funP N).length≤100:=by
  unfold funP
  rw [List.length_map,sett_len]
  have:=ok.s2
  have:=pow_small (j:=N.sw.toNat) (by omega)
  omega
 obtain ⟨S6,e6,_⟩:=(bits_texts H.bt H.lb (n+7) hb hlen S5).1
 obtain ⟨S7,e7,_⟩:=(bits_texts H.bt H.lb (n+7) hb hlen S6).2
 obtain ⟨S8,e8,_⟩:=law_net_text_spec H.lt (n+7) ok S7
 obtain ⟨S9,e9,_⟩:=net_read_spec H.r (n+3) ok S8
 obtain ⟨S10,e10,_⟩:=lp_net H.lp (n+4) ok S9
 exact ⟨_,_,_,S10,l91_run _ e1 e2 e3 e4 (ne_txt _ S4) e5 e6 e7 (ne_txt _ S7) e8 e9 (ne_net N S9) e10⟩
noncomputable def N91a:Net:=⟨1,2,[]⟩
noncomputable def N91b:Net:=⟨2,3,[⟨0,2,0,1⟩,⟨1,2,1,0⟩]⟩
theorem g91a:N91a.g:=⟨by decide,by decide,by decide,by decide,by decide,fun c hc=>by cases hc⟩
theorem g91b:N91b.g:=⟨by decide,by decide,by decide,by decide,by decide,fun c hc=>by
 unfold N91b at hc
 simp only [List.mem_cons,List.not_mem_nil,or_false] at hc
 rcases hc with rfl | rfl <;> exact ⟨by decide,by decide,by decide,by decide,by decide,by decide,by decide⟩⟩
theorem law91_run (c:CLL) {sc:D}{S S1 S2 S3:Store}{q:Int}{len:Nat}{v1 v2 v3 v4:Option D}{ta tb:D} (hsc:fLen [sc] S=.ok (.int len) S) (hq:(if (if (10:Int)<(len:Int) then 10 else (len:Int))>1 then (if (10:Int)<(len:Int) then 10 else (len:Int)) else 1)=q) (f2:-4611686018427387904≤q∧q<4611686018427387904) (e2:loopS [] (gN 1) (law_v36_l1 c) (upD 0 q.toNat) [some sc,none,none,none,none] S=.nx [some sc,v1,v2,v3,v4] S1)
  (e3:c "net_text" [.tup [.int 1,.int 2,.tup []]] S1=.ok ta S2) (q3:oEq ta (.str (Str.ofString "1 2:")) S2=.ok (.bl true) S2) (e4:c "net_text" [.tup [.int 2,.int 3,.tup [.tup [.int 0,.int 2,.int 0,.int 1],.tup [.int 1,.int 2,.int 1,.int 0]]]] S2=.ok tb S3) (q4:oEq tb (.str (Str.ofString "2 3: 0-2/0+ 1-2/1-")) S3=.ok (.bl true) S3) :
  b_law_v36 c [some sc,none,none,none,none] S=.rt (.bl true) S3:=by
 simp [b_law_v36,hsc,hq,f2,e2,e3,q3,e4,q4]
theorem law91 (h:Hs_law_v36 cl) (H:HL91 cl) (n:Nat) (ns:List Int):∃ S',cl (n+9) "law" [.rol (ns.map D.int)] []=.ok (.bl true) S':=by
 rw [show n+9=(n+8)+1 from rfl,h]
 generalize hsc:D.rol (ns.map D.int)=sc
 have hm:∃ q:Int,(if (if (10:Int)<(ns.length:Int) then 10 else (ns.length:Int))>1 then (if (10:Int)<(ns.length:Int) then 10 else (ns.length:Int)) else 1)=q∧0≤q∧q≤10:=⟨_,rfl,by split <;> (try split) <;> omega,by split <;> (try split) <;> omega⟩
 obtain ⟨q,hq,q0,q6⟩:=hm
 obtain ⟨ρ',S1,e1,v1,v2,v3,v4,rfl⟩:=loop_inv (w:=[]) (g:=gN 1) (b:=law_v36_l1 (cl (n+8))) (items:=upD 0 q.toNat)
  (fun j ρ S=>∃ v1 v2 v3 v4,ρ=[some sc,v1,v2,v3,v4]) (ρ:=[some sc,none,none,none,none]) (S:=[])
  (fun j ρ S hp=>okW_nil _) ⟨none,none,none,none,rfl⟩
  (fun j d ρ S hd hp=>by
   obtain ⟨v1,v2,v3,v4,rfl⟩:=hp
   rw [upD_get] at hd
   obtain ⟨hj,rfl⟩:=hd
   obtain ⟨u2,u3,u4,S2,e2⟩:=row91 H n ns hsc (0+(j:Int)) (by omega) S v2 v3 v4
   exact ⟨_,_,rfl,_,S2,.inl e2,_,_,_,_,rfl⟩)
 obtain ⟨S2,e3,_⟩:=net_text_spec H.r.nt H.r.ct (n+6) g91a S1
 obtain ⟨S3,e4,_⟩:=net_text_spec H.r.nt H.r.ct (n+6) g91b S2
 have t1:txN N91a=Str.ofString "1 2:":=by decide +kernel
 have t2:txN N91b=Str.ofString "2 3: 0-2/0+ 1-2/1-":=by decide +kernel
 have eq_txt:∀ (z:Str) (S:Store),oEq (.str z) (.str z) S=.ok (.bl true) S:=fun z S=>by
  show R.ok (D.bl (decide (z=z))) S=_
  rw [decide_eq_true rfl]
 rw [t1] at e3
 rw [t2] at e4
 exact ⟨S3,run_rt rfl (law91_run _ (by rw [← hsc,fLen_rol,List.length_map]) hq (by omega) e1 e3 (eq_txt _ S2) e4 (eq_txt _ S3))⟩
end My
set_option maxHeartbeats 4000000
namespace My
open PySem L2
noncomputable def tbl:Tbl:=[(("is_whole":Str),(1,1,b_is_whole)),
 (("is_bit":Str),(1,1,b_is_bit)),
 (("is_contact":Str),(3,3,b_is_contact)),
 (("is_net":Str),(1,4,b_is_net)),
 (("contact_text":Str),(1,5,b_contact_text)),
 (("net_text":Str),(1,3,b_net_text)),
 (("bits_text":Str),(1,1,b_bits_text)),
 (("figure":Str),(1,1,b_figure)),
 (("has_lengths_of_net":Str),(1,1,b_has_lengths_of_net)),
 (("contact_read":Str),(1,1,b_contact_read)),
 (("net_read":Str),(1,3,b_net_read)),
 (("_law_cell_at":Str),(2,2,b_law_cell_at)),
 (("_law_state":Str),(2,3,b_law_state)),
 (("_law_take":Str),(2,4,b_law_take)),
 (("_law_ends":Str),(2,5,b_law_ends)),
 (("_law_net":Str),(4,13,b_law_net)),
 (("_law_settings":Str),(1,3,b_law_settings)),
 (("_law_shut":Str),(2,2,b_law_shut)),
 (("_law_marks":Str),(2,8,b_law_marks)),
 (("_law_lets":Str),(2,2,b_law_lets)),
 (("_law_function":Str),(1,1,b_law_function)),
 (("_law_net_text":Str),(1,6,b_law_net_text)),
 (("_law_bits_text":Str),(1,1,b_law_bits_text)),
 (("_law_plain":Str),(1,1,b_law_plain)),
 (("law":Str),(1,5,b_law_v36))]
noncomputable def top (i:Nat):Stmt:=PySem.Challenge.pw_contactnets_k91_texts_written_and_read.main.body.getD i (.Pass ⟨0,0,0,0⟩)
theorem hk {f g:Nat→List D→M D} (h:f=g) (n:Nat):f n=g n:=congrFun h n
noncomputable abbrev s_is_whole:Stmt:=top 4
noncomputable abbrev s_is_bit:Stmt:=top 5
noncomputable abbrev s_is_contact:Stmt:=top 6
noncomputable abbrev s_is_net:Stmt:=top 7
noncomputable abbrev s_contact_text:Stmt:=top 10
noncomputable abbrev s_net_text:Stmt:=top 11
noncomputable abbrev s_bits_text:Stmt:=top 12
noncomputable abbrev s_figure:Stmt:=top 13
noncomputable abbrev s_has_lengths_of_net:Stmt:=top 14
noncomputable abbrev s_contact_read:Stmt:=top 15
noncomputable abbrev s_net_read:Stmt:=top 16
noncomputable abbrev s_law_cell_at:Stmt:=top 18
noncomputable abbrev s_law_state:Stmt:=top 19
noncomputable abbrev s_law_take:Stmt:=top 20
noncomputable abbrev s_law_ends:Stmt:=top 21
noncomputable abbrev s_law_net:Stmt:=top 22
noncomputable abbrev s_law_settings:Stmt:=top 23
noncomputable abbrev s_law_shut:Stmt:=top 24
noncomputable abbrev s_law_marks:Stmt:=top 25
noncomputable abbrev s_law_lets:Stmt:=top 26
noncomputable abbrev s_law_function:Stmt:=top 27
noncomputable abbrev s_law_net_text:Stmt:=top 28
noncomputable abbrev s_law_bits_text:Stmt:=top 29
noncomputable abbrev s_law_plain:Stmt:=top 30
noncomputable abbrev s_law:Stmt:=top 31
abbrev CKp (x:Str) (N:List Str) (st:Stmt) (b:CLL→CS):Prop:=(fun cl:CLL=>cSts (arT tbl) cl 60 ⟨N,(defScope st).names,some x⟩ (defBody st))=fun cl=>some (b cl)
theorem fk_is_whole:fnOk ["thing"] ["thing"] (defScope s_is_whole)=true:=by decide +kernel
theorem hs_is_whole:Hs_is_whole (callT tbl):=hk (by kernel_rfl)
theorem ck_is_whole:CKp "is_whole" ["thing"] s_is_whole b_is_whole:=by kernel_rfl
theorem fk_is_bit:fnOk ["thing"] ["thing"] (defScope s_is_bit)=true:=by decide +kernel
theorem hs_is_bit:Hs_is_bit (callT tbl):=hk (by kernel_rfl)
theorem ck_is_bit:CKp "is_bit" ["thing"] s_is_bit b_is_bit:=by kernel_rfl
theorem fk_is_contact:fnOk ["switches","places","thing"] ["switches","places","thing"] (defScope s_is_contact)=true:=by decide +kernel
theorem hs_is_contact:Hs_is_contact (callT tbl):=hk (by kernel_rfl)
theorem ck_is_contact:CKp "is_contact" ["switches","places","thing"] s_is_contact b_is_contact:=by kernel_rfl
theorem fk_is_net:fnOk ["thing","switches","places","contacts"] ["thing"] (defScope s_is_net)=true:=by decide +kernel
theorem hs_is_net:Hs_is_net (callT tbl):=hk (by kernel_rfl)
theorem ck_is_net:CKp "is_net" ["thing","switches","places","contacts"] s_is_net b_is_net:=by kernel_rfl
theorem fk_contact_text:fnOk ["contact","a","b","switch","sign"] ["contact"] (defScope s_contact_text)=true:=by decide +kernel
theorem hs_contact_text:Hs_contact_text (callT tbl):=hk (by kernel_rfl)
theorem ck_contact_text:CKp "contact_text" ["contact","a","b","switch","sign"] s_contact_text b_contact_text:=by kernel_rfl
theorem fk_net_text:fnOk ["net","switches","places"] ["net"] (defScope s_net_text)=true:=by decide +kernel
theorem hs_net_text:Hs_net_text (callT tbl):=hk (by kernel_rfl)
theorem ck_net_text:CKp "net_text" ["net","switches","places"] s_net_text b_net_text:=by kernel_rfl
theorem fk_bits_text:fnOk ["bits"] ["bits"] (defScope s_bits_text)=true:=by decide +kernel
theorem hs_bits_text:Hs_bits_text (callT tbl):=hk (by kernel_rfl)
theorem ck_bits_text:CKp "bits_text" ["bits"] s_bits_text b_bits_text:=by kernel_rfl
theorem fk_figure:fnOk ["sign"] ["sign"] (defScope s_figure)=true:=by decide +kernel
theorem hs_figure:Hs_figure (callT tbl):=hk (by kernel_rfl)
theorem ck_figure:CKp "figure" ["sign"] s_figure b_figure:=by kernel_rfl
theorem fk_has_lengths_of_net:fnOk ["words"] ["words"] (defScope s_has_lengths_of_net)=true:=by decide +kernel
theorem hs_has_lengths_of_net:Hs_has_lengths_of_net (callT tbl):=hk (by kernel_rfl)
theorem ck_has_lengths_of_net:CKp "has_lengths_of_net" ["words"] s_has_lengths_of_net b_has_lengths_of_net:=by kernel_rfl
theorem fk_contact_read:fnOk ["word"] ["word"] (defScope s_contact_read)=true:=by decide +kernel
theorem hs_contact_read:Hs_contact_read (callT tbl):=hk (by kernel_rfl)
theorem ck_contact_read:CKp "contact_read" ["word"] s_contact_read b_contact_read:=by kernel_rfl
theorem fk_net_read:fnOk ["text","words","net"] ["text"] (defScope s_net_read)=true:=by decide +kernel
theorem hs_net_read:Hs_net_read (callT tbl):=hk (by kernel_rfl)
theorem ck_net_read:CKp "net_read" ["text","words","net"] s_net_read b_net_read:=by kernel_rfl
theorem fk_law_cell_at:fnOk ["_law_script","_law_k"] ["_law_script","_law_k"] (defScope s_law_cell_at)=true:=by decide +kernel
theorem hs_law_cell_at:Hs_law_cell_at (callT tbl):=hk (by kernel_rfl)
theorem ck_law_cell_at:CKp "_law_cell_at" ["_law_script","_law_k"] s_law_cell_at b_law_cell_at:=by kernel_rfl
theorem fk_law_state:fnOk ["_law_script","_law_k","_law_cell"] ["_law_script","_law_k"] (defScope s_law_state)=true:=by decide +kernel
theorem hs_law_state:Hs_law_state (callT tbl):=hk (by kernel_rfl)
theorem ck_law_state:CKp "_law_state" ["_law_script","_law_k","_law_cell"] s_law_state b_law_state:=by kernel_rfl
theorem fk_law_take:fnOk ["_law_state_here","_law_many","_law_found","_law_mixed"] ["_law_state_here","_law_many"] (defScope s_law_take)=true:=by decide +kernel
theorem hs_law_take:Hs_law_take (callT tbl):=hk (by kernel_rfl)
theorem ck_law_take:CKp "_law_take" ["_law_state_here","_law_many","_law_found","_law_mixed"] s_law_take b_law_take:=by kernel_rfl
theorem fk_law_ends:fnOk ["_law_state_here","_law_places","_law_row","_law_one","_law_other"] ["_law_state_here","_law_places"] (defScope s_law_ends)=true:=by decide +kernel
theorem hs_law_ends:Hs_law_ends (callT tbl):=hk (by kernel_rfl)
theorem ck_law_ends:CKp "_law_ends" ["_law_state_here","_law_places","_law_row","_law_one","_law_other"] s_law_ends b_law_ends:=by kernel_rfl
theorem fk_law_net:fnOk ["_law_state_here","_law_most_switches","_law_most_places","_law_most_contacts","_law_switches","_law_places","_law_rows","_law_row","_law_one","_law_other","_law_turn","_law_mixed","_law_contact"] ["_law_state_here","_law_most_switches","_law_most_places","_law_most_contacts"] (defScope s_law_net)=true:=by decide +kernel
theorem hs_law_net:Hs_law_net (callT tbl):=hk (by kernel_rfl)
theorem ck_law_net:CKp "_law_net" ["_law_state_here","_law_most_switches","_law_most_places","_law_most_contacts","_law_switches","_law_places","_law_rows","_law_row","_law_one","_law_other","_law_turn","_law_mixed","_law_contact"] s_law_net b_law_net:=by kernel_rfl
theorem fk_law_settings:fnOk ["_law_switches","_law_found","_law_number"] ["_law_switches"] (defScope s_law_settings)=true:=by decide +kernel
theorem hs_law_settings:Hs_law_settings (callT tbl):=hk (by kernel_rfl)
theorem ck_law_settings:CKp "_law_settings" ["_law_switches","_law_found","_law_number"] s_law_settings b_law_settings:=by kernel_rfl
theorem fk_law_shut:fnOk ["_law_net_here","_law_setting"] ["_law_net_here","_law_setting"] (defScope s_law_shut)=true:=by decide +kernel
theorem hs_law_shut:Hs_law_shut (callT tbl):=hk (by kernel_rfl)
theorem ck_law_shut:CKp "_law_shut" ["_law_net_here","_law_setting"] s_law_shut b_law_shut:=by kernel_rfl
theorem fk_law_marks:fnOk ["_law_net_here","_law_numbers","_law_marks_here","_law_turn","_law_number","_law_a","_law_b","_law_least"] ["_law_net_here","_law_numbers"] (defScope s_law_marks)=true:=by decide +kernel
theorem hs_law_marks:Hs_law_marks (callT tbl):=hk (by kernel_rfl)
theorem ck_law_marks:CKp "_law_marks" ["_law_net_here","_law_numbers","_law_marks_here","_law_turn","_law_number","_law_a","_law_b","_law_least"] s_law_marks b_law_marks:=by kernel_rfl
theorem fk_law_lets:fnOk ["_law_net_here","_law_setting"] ["_law_net_here","_law_setting"] (defScope s_law_lets)=true:=by decide +kernel
theorem hs_law_lets:Hs_law_lets (callT tbl):=hk (by kernel_rfl)
theorem ck_law_lets:CKp "_law_lets" ["_law_net_here","_law_setting"] s_law_lets b_law_lets:=by kernel_rfl
theorem fk_law_function:fnOk ["_law_net_here"] ["_law_net_here"] (defScope s_law_function)=true:=by decide +kernel
theorem hs_law_function:Hs_law_function (callT tbl):=hk (by kernel_rfl)
theorem ck_law_function:CKp "_law_function" ["_law_net_here"] s_law_function b_law_function:=by kernel_rfl
theorem fk_law_net_text:fnOk ["_law_net_here","_law_words","_law_a","_law_b","_law_switch","_law_on"] ["_law_net_here"] (defScope s_law_net_text)=true:=by decide +kernel
theorem hs_law_net_text:Hs_law_net_text (callT tbl):=hk (by kernel_rfl)
theorem ck_law_net_text:CKp "_law_net_text" ["_law_net_here","_law_words","_law_a","_law_b","_law_switch","_law_on"] s_law_net_text b_law_net_text:=by kernel_rfl
theorem fk_law_bits_text:fnOk ["_law_bits"] ["_law_bits"] (defScope s_law_bits_text)=true:=by decide +kernel
theorem hs_law_bits_text:Hs_law_bits_text (callT tbl):=hk (by kernel_rfl)
theorem ck_law_bits_text:CKp "_law_bits_text" ["_law_bits"] s_law_bits_text b_law_bits_text:=by kernel_rfl
theorem fk_law_plain:fnOk ["_law_thing"] ["_law_thing"] (defScope s_law_plain)=true:=by decide +kernel
theorem hs_law_plain:Hs_law_plain (callT tbl):=hk (by kernel_rfl)
theorem ck_law_plain:CKp "_law_plain" ["_law_thing"] s_law_plain b_law_plain:=by kernel_rfl
theorem fk_law:fnOk ["_law_script","_law_k","_law_net_here","_law_function_here","_law_found"] ["_law_script"] (defScope s_law)=true:=by decide +kernel
theorem hs_law:Hs_law_v36 (callT tbl):=hk (by kernel_rfl)
theorem ck_law:CKp "law" ["_law_script","_law_k","_law_net_here","_law_function_here","_law_found"] s_law b_law_v36:=by kernel_rfl
theorem law_true (ns:List Int) (h:ns.length≤63):∃ S',callT tbl 100 "law" [.rol (ns.map D.int)] []=.ok (.bl true) S':=law91 hs_law ⟨⟨hs_law_state,hs_law_cell_at,hs_law_take,hs_law_ends,hs_law_net⟩,⟨hs_law_settings,hs_law_shut,hs_law_marks,hs_law_lets,hs_law_function⟩,⟨hs_figure,hs_has_lengths_of_net,hs_contact_read,hs_net_read,hs_net_text,hs_contact_text,hs_is_net,hs_is_contact,hs_is_bit,hs_is_whole⟩,hs_bits_text,hs_law_bits_text,hs_law_net_text,hs_law_plain⟩ 91 ns
def DF (K:W.Frag) (n:Str) (st:Stmt):Prop:=∃ (f:Addr) (od an:Option Addr) (sl:Array (Option Value)) (oc kV dc pm cd ct:Value),W.nsIn K mainGlobals n=some (some (.ref f))∧K.lookup f=some ⟨oc,od,.func (W.fnOf n n (defArgs st) (defBody st) (defScope st) .none kV dc pm an cd ct),sl⟩∧W.codeIn K cd n=true∧W.keepIn K (.ref f)=true
theorem mkDF {K:W.Frag}{n:Str}{st:Stmt}{f:Addr}{od an:Option Addr}{sl:Array (Option Value)}{oc kV dc pm cd ct:Value} (a:W.nsIn K mainGlobals n=some (some (.ref f))) (l:K.lookup f=some ⟨oc,od,.func (W.fnOf n n (defArgs st) (defBody st) (defScope st) .none kV dc pm an cd ct),sl⟩) (c:W.codeIn K cd n=true) (k:W.keepIn K (.ref f)=true):DF K n st:=⟨f,od,an,sl,oc,kV,dc,pm,cd,ct,a,l,c,k⟩
theorem DF.in {K:W.Frag}{h:Heap}{mg:Str→Option Value}{n:Str}{st:Stmt} (d:DF K n st) (X:K.In h) (G:h.Ns mainGlobals mg):∃ (f:Addr) (kV dc pm:Value) (an:Option Addr) (cd ct:Value),mg n=some (.ref f)∧Fun K n n st f (W.fnOf n n (defArgs st) (defBody st) (defScope st) .none kV dc pm an cd ct):=by
 obtain ⟨f,od,an,sl,oc,kV,dc,pm,cd,ct,a,l,c,k⟩:=d
 exact ⟨f,kV,dc,pm,an,cd,ct,W.mg_of X G a,fun_mk l c k⟩
noncomputable def ZN (K:W.Frag):List Str→Prop
 | []=>True
 | x::r=>W.nsIn K mainGlobals x=some none∧ZN K r
theorem ZN.none {K:W.Frag}{h:Heap}{mg:Str→Option Value} (X:K.In h) (G:h.Ns mainGlobals mg):∀ {l:List Str},ZN K l→AllNone mg l
 | [],_=>True.intro
 | _::_,z=>⟨W.mg_none_of X G z.1,z.2.none X G⟩
noncomputable def txIn (K:W.Frag) (x z:Str):Bool:=match W.nsIn K mainGlobals x with
 | some (some (.str y _))=>decide (y=z)
 | _=>false
noncomputable def txAll (K:W.Frag):Bool:=txL.all (fun p=>txIn K p.1 p.2)
theorem txs_of {K:W.Frag}{h:Heap}{mg:Str→Option Value} (X:K.In h) (G:h.Ns mainGlobals mg) (a:txAll K=true) (x z:Str) (e:txL.lookup x=some z):∃ t,mg x=some (.str z t):=by
 have q:=List.all_eq_true.mp a _ (lookup_mem e)
 unfold txIn at q
 dsimp only at q
 split at q
 ·rename_i y t hy
  rw [of_decide_eq_true q] at hy
  exact ⟨t,W.mg_of X G hy⟩
 ·cases q
def BP (st:Stmt) (n:Str) (ps:List Str) (kV doc pm:Value) (an:Option Addr) (cdv ct:Value) (us:List Value):Prop:=bindArgs (W.fnOf n n (defArgs st) (defBody st) (defScope st) .none kV doc pm an cdv ct) ⟨us,[]⟩=pure (ps.zip us)
def BF (st:Stmt) (n:Str) (ps:List Str):Prop:=∀ (kV doc pm:Value) (an:Option Addr) (cdv ct:Value) (us:List Value),us.length=ps.length→BP st n ps kV doc pm an cdv ct us
theorem dIn {K:W.Frag}{h:Heap}{mg:Str→Option Value}{ar:Str→Option Nat}{x:Str}{st:Stmt}{N ps:List Str}{fuel np nN:Nat}{b:CLL→CS} (d:DF K x st) (X:K.In h) (G:h.Ns mainGlobals mg) (hb:BF st x ps) (hs:fnOk N ps (defScope st)=true)
  (hc:(fun cl:CLL=>cSts ar cl fuel ⟨N,(defScope st).names,some x⟩ (defBody st))=fun cl=>some (b cl)) (h1:ps.length=np:=by rfl) (h2:N.length=nN:=by rfl):DefIn K mg ar x (np,nN,b):=by
 obtain ⟨_,_,_,_,_,_,_,m,F⟩:=d.in X G
 exact def_in F m (F.binds (ps:=ps) hb) hs hc h1 h2
theorem usC {n:Nat}:∀ us:List Value,us.length=n+1→∃ a r,us=a::r∧r.length=n
 | a::r,h=>⟨a,r,rfl,Nat.succ.inj h⟩
theorem us0 {P:List Value→Prop} (h:P []) (us:List Value) (hl:us.length=0):P us:=by
 rw [List.eq_nil_of_length_eq_zero hl]; exact h
theorem us1 {P:List Value→Prop} (h:∀ a0:Value,P [a0]) (us:List Value) (hl:us.length=1):P us:=by
 obtain ⟨a,r,rfl,hq⟩:=usC us hl
 exact us0 (P:=fun r=>P (a::r)) (h a) r hq
theorem us2 {P:List Value→Prop} (h:∀ a0 a1:Value,P [a0,a1]) (us:List Value) (hl:us.length=2):P us:=by
 obtain ⟨a,r,rfl,hq⟩:=usC us hl
 exact us1 (P:=fun r=>P (a::r)) (h a) r hq
theorem us3 {P:List Value→Prop} (h:∀ a0 a1 a2:Value,P [a0,a1,a2]) (us:List Value) (hl:us.length=3):P us:=by
 obtain ⟨a,r,rfl,hq⟩:=usC us hl
 exact us2 (P:=fun r=>P (a::r)) (h a) r hq
theorem us4 {P:List Value→Prop} (h:∀ a0 a1 a2 a3:Value,P [a0,a1,a2,a3]) (us:List Value) (hl:us.length=4):P us:=by
 obtain ⟨a,r,rfl,hq⟩:=usC us hl
 exact us3 (P:=fun r=>P (a::r)) (h a) r hq
theorem bf_is_whole:BF s_is_whole "is_whole" ["thing"]:=fun kV doc pm an cdv ct=>us1 (P:=BP s_is_whole "is_whole" ["thing"] kV doc pm an cdv ct) (fun _=>rfl)
theorem bf_is_bit:BF s_is_bit "is_bit" ["thing"]:=fun kV doc pm an cdv ct=>us1 (P:=BP s_is_bit "is_bit" ["thing"] kV doc pm an cdv ct) (fun _=>rfl)
theorem bf_is_contact:BF s_is_contact "is_contact" ["switches","places","thing"]:=fun kV doc pm an cdv ct=>us3 (P:=BP s_is_contact "is_contact" ["switches","places","thing"] kV doc pm an cdv ct) (fun _ _ _=>rfl)
theorem bf_is_net:BF s_is_net "is_net" ["thing"]:=fun kV doc pm an cdv ct=>us1 (P:=BP s_is_net "is_net" ["thing"] kV doc pm an cdv ct) (fun _=>rfl)
theorem bf_contact_text:BF s_contact_text "contact_text" ["contact"]:=fun kV doc pm an cdv ct=>us1 (P:=BP s_contact_text "contact_text" ["contact"] kV doc pm an cdv ct) (fun _=>rfl)
theorem bf_net_text:BF s_net_text "net_text" ["net"]:=fun kV doc pm an cdv ct=>us1 (P:=BP s_net_text "net_text" ["net"] kV doc pm an cdv ct) (fun _=>rfl)
theorem bf_bits_text:BF s_bits_text "bits_text" ["bits"]:=fun kV doc pm an cdv ct=>us1 (P:=BP s_bits_text "bits_text" ["bits"] kV doc pm an cdv ct) (fun _=>rfl)
theorem bf_figure:BF s_figure "figure" ["sign"]:=fun kV doc pm an cdv ct=>us1 (P:=BP s_figure "figure" ["sign"] kV doc pm an cdv ct) (fun _=>rfl)
theorem bf_has_lengths_of_net:BF s_has_lengths_of_net "has_lengths_of_net" ["words"]:=fun kV doc pm an cdv ct=>us1 (P:=BP s_has_lengths_of_net "has_lengths_of_net" ["words"] kV doc pm an cdv ct) (fun _=>rfl)
theorem bf_contact_read:BF s_contact_read "contact_read" ["word"]:=fun kV doc pm an cdv ct=>us1 (P:=BP s_contact_read "contact_read" ["word"] kV doc pm an cdv ct) (fun _=>rfl)
theorem bf_net_read:BF s_net_read "net_read" ["text"]:=fun kV doc pm an cdv ct=>us1 (P:=BP s_net_read "net_read" ["text"] kV doc pm an cdv ct) (fun _=>rfl)
theorem bf_law_cell_at:BF s_law_cell_at "_law_cell_at" ["_law_script","_law_k"]:=fun kV doc pm an cdv ct=>us2 (P:=BP s_law_cell_at "_law_cell_at" ["_law_script","_law_k"] kV doc pm an cdv ct) (fun _ _=>rfl)
theorem bf_law_state:BF s_law_state "_law_state" ["_law_script","_law_k"]:=fun kV doc pm an cdv ct=>us2 (P:=BP s_law_state "_law_state" ["_law_script","_law_k"] kV doc pm an cdv ct) (fun _ _=>rfl)
theorem bf_law_take:BF s_law_take "_law_take" ["_law_state_here","_law_many"]:=fun kV doc pm an cdv ct=>us2 (P:=BP s_law_take "_law_take" ["_law_state_here","_law_many"] kV doc pm an cdv ct) (fun _ _=>rfl)
theorem bf_law_ends:BF s_law_ends "_law_ends" ["_law_state_here","_law_places"]:=fun kV doc pm an cdv ct=>us2 (P:=BP s_law_ends "_law_ends" ["_law_state_here","_law_places"] kV doc pm an cdv ct) (fun _ _=>rfl)
theorem bf_law_net:BF s_law_net "_law_net" ["_law_state_here","_law_most_switches","_law_most_places","_law_most_contacts"]:=fun kV doc pm an cdv ct=>us4 (P:=BP s_law_net "_law_net" ["_law_state_here","_law_most_switches","_law_most_places","_law_most_contacts"] kV doc pm an cdv ct) (fun _ _ _ _=>rfl)
theorem bf_law_settings:BF s_law_settings "_law_settings" ["_law_switches"]:=fun kV doc pm an cdv ct=>us1 (P:=BP s_law_settings "_law_settings" ["_law_switches"] kV doc pm an cdv ct) (fun _=>rfl)
theorem bf_law_shut:BF s_law_shut "_law_shut" ["_law_net_here","_law_setting"]:=fun kV doc pm an cdv ct=>us2 (P:=BP s_law_shut "_law_shut" ["_law_net_here","_law_setting"] kV doc pm an cdv ct) (fun _ _=>rfl)
theorem bf_law_marks:BF s_law_marks "_law_marks" ["_law_net_here","_law_numbers"]:=fun kV doc pm an cdv ct=>us2 (P:=BP s_law_marks "_law_marks" ["_law_net_here","_law_numbers"] kV doc pm an cdv ct) (fun _ _=>rfl)
theorem bf_law_lets:BF s_law_lets "_law_lets" ["_law_net_here","_law_setting"]:=fun kV doc pm an cdv ct=>us2 (P:=BP s_law_lets "_law_lets" ["_law_net_here","_law_setting"] kV doc pm an cdv ct) (fun _ _=>rfl)
theorem bf_law_function:BF s_law_function "_law_function" ["_law_net_here"]:=fun kV doc pm an cdv ct=>us1 (P:=BP s_law_function "_law_function" ["_law_net_here"] kV doc pm an cdv ct) (fun _=>rfl)
theorem bf_law_net_text:BF s_law_net_text "_law_net_text" ["_law_net_here"]:=fun kV doc pm an cdv ct=>us1 (P:=BP s_law_net_text "_law_net_text" ["_law_net_here"] kV doc pm an cdv ct) (fun _=>rfl)
theorem bf_law_bits_text:BF s_law_bits_text "_law_bits_text" ["_law_bits"]:=fun kV doc pm an cdv ct=>us1 (P:=BP s_law_bits_text "_law_bits_text" ["_law_bits"] kV doc pm an cdv ct) (fun _=>rfl)
theorem bf_law_plain:BF s_law_plain "_law_plain" ["_law_thing"]:=fun kV doc pm an cdv ct=>us1 (P:=BP s_law_plain "_law_plain" ["_law_thing"] kV doc pm an cdv ct) (fun _=>rfl)
theorem bf_law:BF s_law "law" ["_law_script"]:=fun kV doc pm an cdv ct=>us1 (P:=BP s_law "law" ["_law_script"] kV doc pm an cdv ct) (fun _=>rfl)
theorem all_mk {l:W.OpenLaw}{w:World}{K:W.Frag}{h:Heap}{mg:Str→Option Value}{fa:Addr} (X:K.In h) (G:h.Ns mainGlobals mg) (hfa:mg "law"=some (.ref fa))
  (d1:DF K "is_whole" s_is_whole) (d2:DF K "is_bit" s_is_bit) (d3:DF K "is_contact" s_is_contact) (d4:DF K "is_net" s_is_net) (d5:DF K "contact_text" s_contact_text) (d6:DF K "net_text" s_net_text) (d7:DF K "bits_text" s_bits_text) (d8:DF K "figure" s_figure) (d9:DF K "has_lengths_of_net" s_has_lengths_of_net) (d10:DF K "contact_read" s_contact_read) (d11:DF K "net_read" s_net_read) (d12:DF K "_law_cell_at" s_law_cell_at) (d13:DF K "_law_state" s_law_state) (d14:DF K "_law_take" s_law_take) (d15:DF K "_law_ends" s_law_ends) (d16:DF K "_law_net" s_law_net) (d17:DF K "_law_settings" s_law_settings) (d18:DF K "_law_shut" s_law_shut) (d19:DF K "_law_marks" s_law_marks) (d20:DF K "_law_lets" s_law_lets) (d21:DF K "_law_function" s_law_function) (d22:DF K "_law_net_text" s_law_net_text) (d23:DF K "_law_bits_text" s_law_bits_text) (d24:DF K "_law_plain" s_law_plain) (d25:DF K "law" s_law) (z:ZN K bltL) (tx:txAll K=true) :
  ∃ fd:FuncData,(∀ (s:Shared) (v:Value),BindsTo s fd ⟨[v],[]⟩ [("_law_script",v)])∧∀ base:Heap,K.In base→base.Ns mainGlobals mg→FnOk l.prog w K mg base CX0 100 fa fd ["_law_script"] (spL K):=by
 obtain ⟨_,kV,dc,pm,an,cd,ct,m,F⟩:=d25.in X G
 have e:=hfa.symm.trans m
 cases e
 have A:AllIn K mg (arT tbl) tbl:=And.intro (dIn d1 X G bf_is_whole fk_is_whole ck_is_whole) (And.intro (dIn d2 X G bf_is_bit fk_is_bit ck_is_bit) (And.intro (dIn d3 X G bf_is_contact fk_is_contact ck_is_contact) (And.intro (dIn d4 X G bf_is_net fk_is_net ck_is_net) (And.intro (dIn d5 X G bf_contact_text fk_contact_text ck_contact_text) (And.intro (dIn d6 X G bf_net_text fk_net_text ck_net_text) (And.intro (dIn d7 X G bf_bits_text fk_bits_text ck_bits_text) (And.intro (dIn d8 X G bf_figure fk_figure ck_figure) (And.intro (dIn d9 X G bf_has_lengths_of_net fk_has_lengths_of_net ck_has_lengths_of_net) (And.intro (dIn d10 X G bf_contact_read fk_contact_read ck_contact_read) (And.intro (dIn d11 X G bf_net_read fk_net_read ck_net_read) (And.intro (dIn d12 X G bf_law_cell_at fk_law_cell_at ck_law_cell_at) (And.intro (dIn d13 X G bf_law_state fk_law_state ck_law_state) (And.intro (dIn d14 X G bf_law_take fk_law_take ck_law_take) (And.intro (dIn d15 X G bf_law_ends fk_law_ends ck_law_ends) (And.intro (dIn d16 X G bf_law_net fk_law_net ck_law_net) (And.intro (dIn d17 X G bf_law_settings fk_law_settings ck_law_settings) (And.intro (dIn d18 X G bf_law_shut fk_law_shut ck_law_shut) (And.intro (dIn d19 X G bf_law_marks fk_law_marks ck_law_marks) (And.intro (dIn d20 X G bf_law_lets fk_law_lets ck_law_lets) (And.intro (dIn d21 X G bf_law_function fk_law_function ck_law_function) (And.intro (dIn d22 X G bf_law_net_text fk_law_net_text ck_law_net_text) (And.intro (dIn d23 X G bf_law_bits_text fk_law_bits_text ck_law_bits_text) (And.intro (dIn d24 X G bf_law_plain fk_law_plain ck_law_plain) (And.intro (dIn d25 X G bf_law fk_law ck_law) (True.intro)))))))))))))))))))))))))
 refine ⟨W.fnOf "law" "law" (defArgs s_law) (defBody s_law) (defScope s_law) .none kV dc pm an cd ct,fun s v=>.of_eq rfl,fun base _ _=>?_⟩
 exact law_ok (L:=99) (fun x p e=>A.look x p e) ⟨fun y hy _=>(z.none X G).mem y hy,txs_of X G tx⟩ (by kernel_rfl) F fk_law rfl (fun cl=>congrFun ck_law cl) (fun ns h=>law_true ns h)
end My
open PySem PySem.W PyProof.Rows
theorem PySem.W.Fast.te3736769034581353970:True:=trivial
set_option maxRecDepth 100000 in
set_option maxHeartbeats 0 in
theorem PySem.Challenge.cw_contactnets_k91_texts_written_and_read_holds : PySem.Challenge.rw_contactnets_k91_texts_written_and_read.Holds := by
 w_on; o_law; k_head; (case hw=>w_witness2)
 k_fill
 refine L2.walk_ev (L:=100) (l:=PySem.Challenge.rw_contactnets_k91_texts_written_and_read) rfl rfl ⟨rfl,by decide,by decide,rfl⟩ (fun w h Y=>PySem.W.kIn_of Y) ?F
 case F =>
  intro w mg fa h KX G hmg
  refine' My.all_mk KX G hmg (My.mkDF ?a1 ?l1 ?c1 ?k1) (My.mkDF ?a2 ?l2 ?c2 ?k2) (My.mkDF ?a3 ?l3 ?c3 ?k3) (My.mkDF ?a4 ?l4 ?c4 ?k4) (My.mkDF ?a5 ?l5 ?c5 ?k5) (My.mkDF ?a6 ?l6 ?c6 ?k6) (My.mkDF ?a7 ?l7 ?c7 ?k7) (My.mkDF ?a8 ?l8 ?c8 ?k8) (My.mkDF ?a9 ?l9 ?c9 ?k9) (My.mkDF ?a10 ?l10 ?c10 ?k10) (My.mkDF ?a11 ?l11 ?c11 ?k11) (My.mkDF ?a12 ?l12 ?c12 ?k12) (My.mkDF ?a13 ?l13 ?c13 ?k13) (My.mkDF ?a14 ?l14 ?c14 ?k14) (My.mkDF ?a15 ?l15 ?c15 ?k15) (My.mkDF ?a16 ?l16 ?c16 ?k16) (My.mkDF ?a17 ?l17 ?c17 ?k17) (My.mkDF ?a18 ?l18 ?c18 ?k18) (My.mkDF ?a19 ?l19 ?c19 ?k19) (My.mkDF ?a20 ?l20 ?c20 ?k20) (My.mkDF ?a21 ?l21 ?c21 ?k21) (My.mkDF ?a22 ?l22 ?c22 ?k22) (My.mkDF ?a23 ?l23 ?c23 ?k23) (My.mkDF ?a24 ?l24 ?c24 ?k24) (My.mkDF ?a25 ?l25 ?c25 ?k25) ⟨?z1,?z2,?z3,?z4,?z5,?z6,?z7,?z8,?z9,?z10,?z11,?z12,?z13,?z14,?z15,?z16,?z17,?z18,?z19,?z20,True.intro⟩ ?tx
  case a1=>k_is
  case l1=>k_is
  case c1=>k_is
  case k1=>k_is
  case a2=>k_is
  case l2=>k_is
  case c2=>k_is
  case k2=>k_is
  case a3=>k_is
  case l3=>k_is
  case c3=>k_is
  case k3=>k_is
  case a4=>k_is
  case l4=>k_is
  case c4=>k_is
  case k4=>k_is
  case a5=>k_is
  case l5=>k_is
  case c5=>k_is
  case k5=>k_is
  case a6=>k_is
  case l6=>k_is
  case c6=>k_is
  case k6=>k_is
  case a7=>k_is
  case l7=>k_is
  case c7=>k_is
  case k7=>k_is
  case a8=>k_is
  case l8=>k_is
  case c8=>k_is
  case k8=>k_is
  case a9=>k_is
  case l9=>k_is
  case c9=>k_is
  case k9=>k_is
  case a10=>k_is
  case l10=>k_is
  case c10=>k_is
  case k10=>k_is
  case a11=>k_is
  case l11=>k_is
  case c11=>k_is
  case k11=>k_is
  case a12=>k_is
  case l12=>k_is
  case c12=>k_is
  case k12=>k_is
  case a13=>k_is
  case l13=>k_is
  case c13=>k_is
  case k13=>k_is
  case a14=>k_is
  case l14=>k_is
  case c14=>k_is
  case k14=>k_is
  case a15=>k_is
  case l15=>k_is
  case c15=>k_is
  case k15=>k_is
  case a16=>k_is
  case l16=>k_is
  case c16=>k_is
  case k16=>k_is
  case a17=>k_is
  case l17=>k_is
  case c17=>k_is
  case k17=>k_is
  case a18=>k_is
  case l18=>k_is
  case c18=>k_is
  case k18=>k_is
  case a19=>k_is
  case l19=>k_is
  case c19=>k_is
  case k19=>k_is
  case a20=>k_is
  case l20=>k_is
  case c20=>k_is
  case k20=>k_is
  case a21=>k_is
  case l21=>k_is
  case c21=>k_is
  case k21=>k_is
  case a22=>k_is
  case l22=>k_is
  case c22=>k_is
  case k22=>k_is
  case a23=>k_is
  case l23=>k_is
  case c23=>k_is
  case k23=>k_is
  case a24=>k_is
  case l24=>k_is
  case c24=>k_is
  case k24=>k_is
  case a25=>k_is
  case l25=>k_is
  case c25=>k_is
  case k25=>k_is
  case z1=>k_is
  case z2=>k_is
  case z3=>k_is
  case z4=>k_is
  case z5=>k_is
  case z6=>k_is
  case z7=>k_is
  case z8=>k_is
  case z9=>k_is
  case z10=>k_is
  case z11=>k_is
  case z12=>k_is
  case z13=>k_is
  case z14=>k_is
  case z15=>k_is
  case z16=>k_is
  case z17=>k_is
  case z18=>k_is
  case z19=>k_is
  case z20=>k_is
  case tx=>kernel_rfl
