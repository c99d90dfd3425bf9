import PyProof.Rows.All
import Wide.All
import OpenK.AllK
import Wide.FinOn
import Lean
import PyProof.EqAt
import PyProof.EqKinds
import PyProof.TupleCall
import PyProof.NeKinds
import PyProof.EnumMake
import PyProof.Draws
import PyProof.P3Eq
import PyProof.NeData
import PyProof.ReprRoads
import PyProof.CallFns
import PyProof.SliceSyntax
import PyProof.AutoIntG2
import PyProof.SumWalk
import PyProof.ConsumeWalk
import PyProof.Rows.TupIter
import PyProof.DictRoadsH
import PyProof.DictWalks
import KE.KDictList
import KE.KIntText
import PyProof.RaisesMany
import OpenK.KOwn
import PyProof.ExcClass2
import PyProof.ExcBaseAll.ValueError
import KE.KLam
import KE.KTryMore
import PyProof.ExcArgsOwn
import PyProof.ExcAttrAll.ValueError
import KE.KIsAll
import PyProof.NsDelKeeps
import KE.KNest
import PySem.Challenge.RW_contactnets_k92_texts_that_write_none
set_option Elab.async false
set_option linter.all false
set_option genSizeOf false
set_option maxRecDepth 100000
set_option maxHeartbeats 1000000
namespace L2
open PySem PySem.Spec PyProof.Rows
noncomputable abbrev Key:=Sum Int Str
noncomputable def keyIs:Key→Value→Bool
 | .inl k,v=>Value.isInt k v
 | .inr x,v=>Value.isStrOf x v
noncomputable def keyH (w:World):Key→Int
 | .inl k=>hashInt k
 | .inr x=>hashStr w x
theorem keyIs_shape:∀ {k:Key}{v:Value},keyIs k v=true→(∃ i t,k=Sum.inl i∧v=Value.int i t)∨(∃ x t,k=Sum.inr x∧v=Value.str x t)
 | .inl i,v,h=>by
  obtain ⟨t,e⟩:=Value.isInt_shape (k:=i) (v:=v) h
  exact .inl ⟨i,t,rfl,e⟩
 | .inr x,v,h=>by
  obtain ⟨t,e⟩:=Value.isStrOf_shape (x:=x) (v:=v) h
  exact .inr ⟨x,t,rfl,e⟩
theorem keyIs_int (i:Int) (t:Tok):keyIs (.inl i) (.int i t)=true:=by simp [keyIs,Value.isInt]
theorem keyIs_str (x:Str) (t:Tok):keyIs (.inr x) (.str x t)=true:=by simp [keyIs,Value.isStrOf]
theorem key_ll (a b:Int):decide ((Sum.inl a:Key)=Sum.inl b)=(a == b):=by
 by_cases e:a=b
 ·subst e; simp
 ·have h:¬ (Sum.inl a:Key)=Sum.inl b:=fun q=>e (Sum.inl.inj q)
  rw [decide_eq_false h]
  exact (beq_eq_false_iff_ne.mpr e).symm
theorem key_rr (a b:Str):decide ((Sum.inr a:Key)=Sum.inr b)=decide (a=b):=by
 by_cases e:a=b
 ·subst e; simp
 ·have h:¬ (Sum.inr a:Key)=Sum.inr b:=fun q=>e (Sum.inr.inj q)
  rw [decide_eq_false h,decide_eq_false e]
theorem key_lr (a:Int) (b:Str):decide ((Sum.inl a:Key)=Sum.inr b)=false:=decide_eq_false (fun q=>nomatch q)
theorem key_rl (a:Str) (b:Int):decide ((Sum.inr a:Key)=Sum.inl b)=false:=decide_eq_false (fun q=>nomatch q)
noncomputable def mixKind (prog:Program) (w:World):PySem.KeyKind prog w Key where
 is:=keyIs
 hash:=keyH w
 inj:=fun v a b ha hb=>by
  rcases keyIs_shape ha with ⟨i,t,rfl,rfl⟩ | ⟨x,t,rfl,rfl⟩
  ·rcases keyIs_shape hb with ⟨j,u,rfl,e⟩ | ⟨y,u,rfl,e⟩
   ·injection e with e1 _; rw [e1]
   ·exact nomatch e
  ·rcases keyIs_shape hb with ⟨j,u,rfl,e⟩ | ⟨y,u,rfl,e⟩
   ·exact nomatch e
   ·injection e with e1 _; rw [e1]
 byValue:=fun k v h=>by
  rcases keyIs_shape h with ⟨i,t,rfl,rfl⟩ | ⟨x,t,rfl,rfl⟩ <;> rfl
 pyHash:=fun hv h=>by
  rcases keyIs_shape hv with ⟨i,t,rfl,rfl⟩ | ⟨x,t,rfl,rfl⟩
  ·exact wpAny_pyHash_int h
  ·exact wpAny_pyHash_str h
 eqBool:=fun hu hv h=>by
  rcases keyIs_shape hu with ⟨i,t,rfl,rfl⟩ | ⟨x,t,rfl,rfl⟩
  ·rcases keyIs_shape hv with ⟨j,u,rfl,rfl⟩ | ⟨y,u,rfl,rfl⟩
   ·rw [key_ll] at h; exact wpAny_eqBool_int h
   ·rw [key_lr] at h; exact SeqAt.EqAt.int_str i t y u _ _ _ _ h
  ·rcases keyIs_shape hv with ⟨j,u,rfl,rfl⟩ | ⟨y,u,rfl,rfl⟩
   ·rw [key_rl] at h; exact SeqAt.EqAt.str_int x t j u _ _ _ _ h
   ·rw [key_rr] at h; exact wpAny_eqBool_str h
 «strs»:=fun k x t v h=>by
  rcases keyIs_shape h with ⟨i,u,rfl,e⟩ | ⟨y,u,rfl,e⟩
  ·exact nomatch e
  ·injection e with e1 _
   subst e1
   cases v <;> rfl
theorem mixKind_int (prog:Program) (w:World) (i:Int) (t:Tok):(mixKind prog w).is (.inl i) (.int i t)=true:=keyIs_int i t
theorem mixKind_str (prog:Program) (w:World) (x:Str) (t:Tok):(mixKind prog w).is (.inr x) (.str x t)=true:=keyIs_str x t
inductive V where
 | non | bl (b:Bool) | int (i:Int) | str (x:Str) | byt (b:Array UInt8) | flt (b:UInt64) | ref (a:Addr) | ty (n:String)
 deriving DecidableEq
noncomputable def RelV:V→Value→Prop
 | .non,u=>u=Value.none
 | .bl b,u=>u=Value.bool b
 | .int i,u=>∃ t,u=Value.int i t
 | .str x,u=>∃ t,u=Value.str x t
 | .byt b,u=>∃ t,u=Value.bytes b t
 | .flt b,u=>∃ t,u=Value.float b t
 | .ref a,u=>u=Value.ref a
 | .ty n,u=>u=Value.type n
noncomputable abbrev Vals:List V→List Value→Prop:=Paired RelV
theorem Vals.length {xs:List V}{us:List Value} (r:Vals xs us):xs.length=us.length:=Paired.length r
theorem Vals.get:∀ {xs:List V}{us:List Value}{i:Nat}{x:V},Vals xs us→xs[i]?=some x→∃ u,us[i]?=some u∧RelV x u
 | _,_,_,_,.nil,e=>by simp at e
 | _,_,0,_,.cons r _,e=>by simp at e; subst e; exact ⟨_,rfl,r⟩
 | _,_,i+1,x,.cons _ t,e=>by
  obtain ⟨u,h1,h2⟩:=Vals.get (i:=i) (x:=x) t (by simpa using e)
  exact ⟨u,by simpa using h1,h2⟩
theorem Vals.set {x:V}{u:Value} (r:RelV x u):∀ {xs:List V}{us:List Value} (i:Nat),Vals xs us→Vals (xs.set i x) (us.set i u)
 | _,_,_,.nil=>.nil
 | _,_,0,.cons _ t=>.cons r t
 | _,_,i+1,.cons q t=>.cons q (Vals.set r i t)
theorem Vals.append:∀ {xs ys:List V}{us ws:List Value},Vals xs us→Vals ys ws→Vals (xs++ys) (us++ws)
 | _,_,_,_,.nil,s=>s
 | _,_,_,_,.cons r t,s=>.cons r (Vals.append t s)
theorem Vals.take:∀ {xs:List V}{us:List Value} (n:Nat),Vals xs us→Vals (xs.take n) (us.take n)
 | _,_,0,_=>.nil
 | _,_,_+1,.nil=>.nil
 | _,_,n+1,.cons r t=>.cons r (Vals.take n t)
theorem Vals.drop:∀ {xs:List V}{us:List Value} (n:Nat),Vals xs us→Vals (xs.drop n) (us.drop n)
 | _,_,0,r=>r
 | _,_,_+1,.nil=>.nil
 | _,_,n+1,.cons _ t=>Vals.drop n t
noncomputable def RelO:Option V→Option Value→Prop
 | some v,some u=>RelV v u
 | none,none=>True
 | _,_=>False
noncomputable def KV {κ:Type}:List (κ × V)→List (κ × Value)→Prop:=Paired fun (p:κ × V) (q:κ × Value)=>p.1=q.1∧RelV p.2 q.2
noncomputable def kV:Key→V
 | .inl i=>.int i
 | .inr x=>.str x
inductive HO where
 /-- a list -/
 | lst (xs:List V)
 /-- a tuple (never changes) -/
 | tup (xs:List V)
 /-- a dict whose keys are ints and texts; one whose keys are tuples of ints and texts (the empty one is both) -/
 | dK (kvs:List (Key × V)) | dT (kvs:List (List Key × V))
 /-- a set of ints: its members,its size -/
 | set (S:Int→Bool) (n:Nat)
 /-- an instance of the class at C,its dict at dx,its attributes -/
 | ins (C dx:Addr) (fs:List (Str × V))
 /-- the dict of the instance at x -/
 | own (x:Addr)
 /-- the dict of an exception -/
 | xd (fs:List (Str × V))
 /-- a bound method,f of x -/
 | met (f x:Addr)
 /-- a range object lo,lo+1,.. below hi -/
 | rng (lo hi:Int)
 /-- a thing that is known to the object (the script; a dict while a loop walks it): read,never written while it is so -/
 | frz (o:Obj) (u:HO)
 /-- a code object's table -/
 | tbl (ps:Array Value)
 /-- any other thing,by what is true of its one object (a def of one's own: SetO a S n:=HO.ext fun h=>..) -/
 | ext (φ:Heap→Prop)
noncomputable abbrev Hp:=Addr→Option HO
noncomputable def upd (H:Hp) (a:Addr) (o:HO):Hp:=fun b=>if b=a then some o else H b
theorem upd_same {H:Hp}{a:Addr}{o:HO}:upd H a o a=some o:=by unfold upd; rw [if_pos rfl]
theorem upd_ne {H:Hp}{a b:Addr}{o:HO} (h:b≠a):upd H a o b=H b:=by unfold upd; rw [if_neg h]
theorem ne_of {H:Hp}{a b:Addr}{o u:HO} (h:H a=some o) (h':H b=some u) (d:o≠u):a≠b:=by
 intro e; subst e; rw [h] at h'; exact d (Option.some.inj h')
theorem ne_of_none {H:Hp}{a b:Addr}{o:HO} (h:H a=some o) (h':H b=none):a≠b:=by
 intro e; subst e; rw [h] at h'; cases h'
section
variable (P:Program) (w:World)
noncomputable def ObjOk (H:Hp) (h:Heap) (a:Addr):HO→Prop
 | .lst xs=>xs.length≤sizeLine∧∃ (its:List Value) (n:Nat),Vals xs its∧h.get? a=some { cls:=.type "list",data:=.seq its.toArray n }
 | .tup xs=>xs.length≤sizeLine∧∃ its:List Value,Vals xs its∧IsTup h a its.toArray
 | .dK kvs=>kvs.length≤sizeLine∧(a == sysModules)=false∧∃ vs,KV kvs vs∧h.DictOf (mixKind P w) a vs
 | .dT kvs=>kvs.length≤sizeLine∧(a == sysModules)=false∧∃ xs:List (List Key × Addr × Value),
   Paired (fun (p:List Key × V) (q:List Key × Addr × Value)=>p.1=q.1∧H q.2.1=some (.tup (p.1.map kV))∧RelV p.2 q.2.2) kvs xs ∧
   ∃ o es ep,h.get? a=some o∧o.ExactDict∧o.data=.dict es ep∧es.toList=xs.map (entryOfKey (tupleKind (mixKind P w)))∧(xs.map (·.1)).Nodup
 | .set S n=>h.SetOf (intKind P w) a S n
 | .ins C dx fs=>H dx=some (.own a)∧fs.length≤1000∧dx≠a∧h.get? a=some (W.instObj C dx) ∧
   ∃ mA,h.Ns1 dx mA∧(∀ f,RelO (fs.lookup f) (mA f))∧PySem.Within mA (fs.map (·.1))
 | .own _=>∃ o,h.get? a=some o
 | .xd fs=>∃ mA,h.Ns1 a mA∧∀ f,RelO (fs.lookup f) (mA f)
 | .rng lo hi=>∃ t u v,h.get? a=some { cls:=.type "range",data:=.fields #[.int lo t,.int hi u,.int 1 v] }
 | .frz o u=>h.get? a=some o∧ObjOk H h a u
 | .tbl ps=>h.get? a=some { cls:=.none,data:=.fields ps }
 | .met f x=>h.get? a=some (W.methodObj (.ref f) (.ref x))
 | .ext φ=>φ h∧(∃ o,h.get? a=some o)∧∀ h1 h2:Heap,φ h1→(∀ o,h1.get? a=some o→h2.get? a=some o)→φ h2
def HOk (H:Hp) (h:Heap):Prop:=∀ a o,H a=some o→ObjOk P w H h a o
end
section
variable {P:Program}{w:World}{H H':Hp}{h h':Heap}{a:Addr}{o:HO}
theorem ObjOk.lt (x:ObjOk P w H h a o):a<h.objs.size:=by
 cases o with
 | lst xs=>obtain ⟨_,_,_,_,e⟩:=x; exact Heap.lt_size e
 | tup xs=>obtain ⟨_,_,_,p⟩:=x; exact p.lt
 | dK kvs=>obtain ⟨_,_,_,_,o,_,_,e,_⟩:=x; exact Heap.lt_size e
 | dT kvs=>obtain ⟨_,_,_,_,o,_,_,e,_⟩:=x; exact Heap.lt_size e
 | set S n=>obtain ⟨o,_,_,_,e,_⟩:=x; exact Heap.lt_size e
 | ins C dx fs=>obtain ⟨_,_,_,e,_⟩:=x; exact Heap.lt_size e
 | own y=>obtain ⟨_,e⟩:=x; exact Heap.lt_size e
 | xd fs=>obtain ⟨_,⟨_,_,_,e,_⟩,_⟩:=x; exact Heap.lt_size e
 | rng lo hi=>obtain ⟨_,_,_,e⟩:=x; exact Heap.lt_size e
 | frz ob u=>obtain ⟨e,_⟩:=x; exact Heap.lt_size e
 | tbl ps=>exact Heap.lt_size (show h.get? a=some _ from x)
 | met f y=>exact Heap.lt_size (show h.get? a=some _ from x)
 | ext φ=>obtain ⟨_,⟨_,e⟩,_⟩:=x; exact Heap.lt_size e
theorem Paired.mapP {α β:Type}{F G:α→β→Prop}:∀ {l₁:List α}{l₂:List β},Paired F l₁ l₂→(∀ a b,F a b→G a b)→Paired G l₁ l₂
 | _,_,.nil,_=>.nil
 | _,_,.cons r t,f=>.cons (f _ _ r) (Paired.mapP t f)
theorem ObjOk.stay (x:ObjOk P w H h a o) (k:∀ b u,(b=a∨H b=some (.own a))→h.get? b=some u→h'.get? b=some u)
  (ho:∀ b,H b=some (.own a)→H' b=some (.own a)) (ht:∀ b xs,H b=some (.tup xs)→H' b=some (.tup xs)):ObjOk P w H' h' a o:=by
 induction o with
 | lst xs=>obtain ⟨z,its,n,r,e⟩:=x; exact ⟨z,its,n,r,k _ _ (.inl rfl) e⟩
 | tup xs=>obtain ⟨z,its,r,ob,e,c⟩:=x; exact ⟨z,its,r,ob,k _ _ (.inl rfl) e,c⟩
 | dK kvs=>obtain ⟨z,y,vs,r,ob,es,ep,e,c⟩:=x; exact ⟨z,y,vs,r,ob,es,ep,k _ _ (.inl rfl) e,c⟩
 | dT kvs =>
  obtain ⟨z,y,xs,r,ob,es,ep,e,c⟩:=x
  exact ⟨z,y,xs,Paired.mapP r fun p q z=>⟨z.1,ht _ _ z.2.1,z.2.2⟩,ob,es,ep,k _ _ (.inl rfl) e,c⟩
 | set S n=>obtain ⟨ob,es,ep,t,e,c⟩:=x; exact ⟨ob,es,ep,t,k _ _ (.inl rfl) e,c⟩
 | ins C dx fs =>
  obtain ⟨d,z,ne,e,mA,⟨od,es,ep,e2,c⟩,r⟩:=x
  exact ⟨ho _ d,z,ne,k _ _ (.inl rfl) e,mA,⟨od,es,ep,k _ _ (.inr d) e2,c⟩,r⟩
 | own y=>obtain ⟨ob,e⟩:=x; exact ⟨ob,k _ _ (.inl rfl) e⟩
 | xd fs=>obtain ⟨mA,⟨od,es,ep,e,c⟩,r⟩:=x; exact ⟨mA,⟨od,es,ep,k _ _ (.inl rfl) e,c⟩,r⟩
 | rng lo hi=>obtain ⟨t,u,v,e⟩:=x; exact ⟨t,u,v,k _ _ (.inl rfl) e⟩
 | frz ob u ih=>obtain ⟨e,q⟩:=x; exact ⟨k _ _ (.inl rfl) e,ih q⟩
 | tbl ps =>
  have e:h.get? a=some { cls:=.none,data:=.fields ps }:=x
  show h'.get? a=some { cls:=.none,data:=.fields ps }
  exact k a _ (.inl rfl) e
 | met f y =>
  have e:h.get? a=some (W.methodObj (.ref f) (.ref y)):=x
  show h'.get? a=some (W.methodObj (.ref f) (.ref y))
  exact k a _ (.inl rfl) e
 | ext φ=>obtain ⟨p,⟨o,e⟩,st⟩:=x; exact ⟨st _ _ p fun o q=>k _ _ (.inl rfl) q,⟨o,k _ _ (.inl rfl) e⟩,st⟩
theorem HOk.lt (x:HOk P w H h) (e:H a=some o):a<h.objs.size:=(x a o e).lt
theorem HOk.fresh (x:HOk P w H h) (e:h.objs.size≤a):H a=none:=by
 cases q:H a with
 | none=>rfl
 | some u=>exact absurd (Nat.lt_of_lt_of_le (x.lt q) e) (Nat.lt_irrefl _)
theorem HOk.kept (x:HOk P w H h) (k:∀ b u,h.get? b=some u→h'.get? b=some u):HOk P w H h':=fun a o e =>
 (x a o e).stay (fun b u _ q=>k b u q) (fun _ q=>q) fun _ _ q=>q
theorem HOk.laid (x:HOk P w H h) (k:∀ b u,h.get? b=some u→h'.get? b=some u) (hp:h.objs.size≤a) (new:ObjOk P w (upd H a o) h' a o):HOk P w (upd H a o) h':=fun b u e=>by
 have hn:=x.fresh hp
 by_cases hb:b=a
 ·subst hb; rw [upd_same] at e; cases e; exact new
 ·rw [upd_ne hb] at e
  exact (x b u e).stay (fun c v _ q=>k c v q) (fun c q=>by rw [upd_ne (ne_of_none q hn)]; exact q) fun c xs q=>by rw [upd_ne (ne_of_none q hn)]; exact q
end
def Rd (H:Hp) (a:Addr) (u:HO):Prop:=H a=some u∨∃ o,H a=some (.frz o u)
theorem Rd.ok {P:Program}{w:World}{H:Hp}{h:Heap}{a:Addr}{u:HO} (r:Rd H a u) (x:HOk P w H h):ObjOk P w H h a u:=by
 rcases r with r | ⟨o,r⟩
 ·exact x a u r
 ·obtain ⟨_,q⟩:=x a _ r
  exact q
noncomputable def Mut:Option HO→Prop
 | some (.lst _)=>True
 | some (.dK _)=>True
 | some (.dT _)=>True
 | some (.set _ _)=>True
 | some (.ins _ _ _)=>True
 | some (.ext _)=>True
 | _=>False
section
variable {P:Program}{w:World}{H:Hp}{h h':Heap}{x e:Addr}{o':HO}
theorem HOk.write (ok:HOk P w H h) (mu:Mut (H x)) (he:e=x∨H e=some (.own x)) (k:∀ b u,b≠e→h.get? b=some u→h'.get? b=some u) (heo:∃ u,h'.get? e=some u)
  (new:ObjOk P w (upd H x o') h' x o'):HOk P w (upd H x o') h':=fun b u q=>by
 have nown:∀ c y,H c=some (.own y)→c≠x:=fun c y r z=>by subst z; rw [r] at mu; exact mu
 have ntup:∀ c xs,H c=some (.tup xs)→c≠x:=fun c xs r z=>by subst z; rw [r] at mu; exact mu
 by_cases hb:b=x
 ·subst hb; rw [upd_same] at q; cases q; exact new
 ·rw [upd_ne hb] at q
  by_cases hbe:b=e
  ·have q':H b=some (.own x):=by
    rcases he with z | z
    ·exact absurd (hbe.trans z) hb
    ·rw [hbe]; exact z
   rw [q] at q'; cases q'
   obtain ⟨v,hv⟩:=heo
   exact ⟨v,by rw [hbe]; exact hv⟩
  ·refine (ok b u q).stay (fun c v hc r=>k c v ?_ r) (fun c r=>by rw [upd_ne (nown c b r)]; exact r) fun c xs r=>by rw [upd_ne (ntup c xs r)]; exact r
   rcases hc with rfl | hc
   ·exact hbe
   ·rintro rfl
    rcases he with z | z
    ·exact nown c b hc z
    ·rw [hc] at z; cases z; exact hb rfl
end
structure Un (fs ex:List Addr) (H H':Hp) (h h':Heap):Prop where
 keep:∀ b o,h.get? b=some o→H b=none→b∉fs→b∉ex→h'.get? b=some o
 slot:∀ b o,h.get? b=some o→H b=none→b∈fs→b∉ex→∃ sl,h'.get? b=some { o with slots:=sl }
 free:∀ b o,h.get? b=some o→H b=none→b∉ex→H' b=none
 there:∀ b o,h.get? b=some o→b∉ex→∃ o',h'.get? b=some o'
 tups:∀ b xs,H b=some (.tup xs)→H' b=some (.tup xs)
 frzs:∀ b o u,H b=some (.frz o u)→H' b=some (.frz o u)
 tbls:∀ b ps,H b=some (.tbl ps)→∃ more,H' b=some (.tbl (ps++more))
section
variable {fs fs' ex ex':List Addr}{H H1 H2:Hp}{h h1 h2 h':Heap}{a x e:Addr}{o:HO}
theorem Un.any (u:Un fs ex H H1 h h1) {b:Addr}{ob:Obj} (q:h.get? b=some ob) (n:H b=none) (hx:b∉ex):∃ sl,h1.get? b=some { ob with slots:=sl }:=by
 by_cases hb:b∈fs
 ·exact u.slot b ob q n hb hx
 ·exact ⟨ob.slots,u.keep b ob q n hb hx⟩
theorem Un.kept (k:∀ b u,h.get? b=some u→h'.get? b=some u):Un fs ex H H h h' :=
 ⟨fun b ob q _ _ _=>k b ob q,fun b ob q _ _ _=>⟨ob.slots,k b ob q⟩,fun _ _ _ n _=>n,fun b ob q _=>⟨ob,k b ob q⟩,fun _ _ q=>q,fun _ _ _ q=>q,fun _ ps q=>⟨#[],by rw [q]; simp⟩⟩
theorem Un.refl:Un fs ex H H h h:=Un.kept fun _ _ q=>q
theorem Un.laid (k:∀ b u,h.get? b=some u→h'.get? b=some u) (hp:h.objs.size≤a) (hn:H a=none):Un fs ex H (upd H a o) h h' where
 keep:=fun b u q _ _ _=>k b u q
 slot:=fun b u q _ _ _=>⟨u.slots,k b u q⟩
 free:=fun b u q n _=>by rw [upd_ne (Nat.ne_of_lt (Nat.lt_of_lt_of_le (Heap.lt_size q) hp))]; exact n
 there:=fun b u q _=>⟨u,k b u q⟩
 tups:=fun b xs q=>by rw [upd_ne (ne_of_none q hn)]; exact q
 frzs:=fun b u xs q=>by rw [upd_ne (ne_of_none q hn)]; exact q
 tbls:=fun b ps q=>⟨#[],by rw [upd_ne (ne_of_none q hn),q]; simp⟩
theorem Un.write (mu:Mut (H x)) (he:e=x∨H e=some (.own x)) (k:∀ b u,b≠e→h.get? b=some u→h'.get? b=some u) (heo:∃ u,h'.get? e=some u):Un fs ex H (upd H x o) h h':=by
 have hx:∀ b,H b=none→b≠x:=fun b n z=>by subst z; rw [n] at mu; exact mu
 have hb:∀ b,H b=none→b≠e:=fun b n z=>by
  subst z
  rcases he with r | r
  ·exact hx b n r
  ·rw [n] at r; cases r
 have hm:∀ b u,H b=some u→¬ Mut (some u)→b≠x:=fun b u q nm z=>by subst z; rw [q] at mu; exact nm mu
 refine ⟨fun b u q n _ _=>k b u (hb b n) q,fun b u q n _ _=>⟨u.slots,k b u (hb b n) q⟩,fun b u q n _=>by rw [upd_ne (hx b n)]; exact n,fun b u q _=>?_,
  fun b xs q=>by rw [upd_ne (hm b _ q fun z=>z)]; exact q,fun b u xs q=>by rw [upd_ne (hm b _ q fun z=>z)]; exact q,fun b ps q=>⟨#[],by rw [upd_ne (hm b _ q fun z=>z),q]; simp⟩⟩
 by_cases hbe:b=e
 ·subst hbe; exact heo
 ·exact ⟨u,k b u hbe q⟩
end
noncomputable def trk (h:Heap) (H:Hp):List Addr:=(List.range h.objs.size).filter fun a=>(H a).isSome
noncomputable def hidT (h:Heap) (H:Hp):Heap:=W.hideAll h (trk h H)
theorem hidT_size (h:Heap) (H:Hp):(hidT h H).objs.size=h.objs.size:=W.hideAll_size _ _
theorem hidT_get {h:Heap}{H:Hp}{b:Addr}{o:Obj} (e:h.get? b=some o) (n:H b=none):(hidT h H).get? b=some o :=
 W.hideAll_get _ e fun hm=>by
  have q:(H b).isSome=true:=(List.mem_filter.mp hm).2
  rw [n] at q; simp at q
theorem of_hidT {h:Heap}{H:Hp}{b:Addr}{o:Obj} (e:(hidT h H).get? b=some o):h.get? b=some o∧H b=none:=by
 have e':h.get? b=some o:=W.of_hideAll (trk h H) e
 refine ⟨e',?_⟩
 cases q:H b with
 | none=>rfl
 | some x =>
  have hm:b∈trk h H:=List.mem_filter.mpr ⟨List.mem_range.mpr (Heap.lt_size e'),by simp [q]⟩
  have z:(hidT h H).get? b=none:=W.hideAll_none (trk h H) hm
  rw [z] at e; cases e
noncomputable def allNews (g h:Heap) (L:Addr):List (Addr × Obj):=(List.range h.objs.size).filterMap fun a=>if a=L∨(g.get? a).isSome=true then none else (h.get? a).map fun o=>(a,o)
noncomputable def rest (g h:Heap) (L d:Addr):List (Addr × Obj):=(allNews g h L).filter fun p=>decide (p.1≠d)
structure Mod (K:W.Frag) (mg:Str→Option Value) (base:Heap):Prop where
 kin:K.In base
 glob:base.Ns mainGlobals mg
 blt:∃ mb,base.Ns builtinsNs mb∧∀ x:Str,x ≠ "__name__"→mb x=bootBuiltins x
 nolimit:base.NoLimit
structure Cx where
 prog:Program
 w:World
 K:W.Frag
 mg:Str→Option Value
 base:Heap
 A:Around
 N:List Str
 s₀:Shared
 H₀:Hp
 env:Env
 outer:List Env
 stack:List Env
 ex:List Addr
 fn:Str→Bool
 calm:Bool
 pn:List (Addr × Obj)
 xe:Value→Shared→Prop
noncomputable def frs (l:List Env):List Addr:=l.filterMap (·.frame)
noncomputable abbrev Cx.fs (X:Cx):List Addr:=frs X.outer
def Vis (sc:Scope) (x:Str):Prop:=sc.names.lookup x=some .local∨sc.names.lookup x=some .cell∨sc.names.lookup x=some .free
def Loc (sc:Scope) (x:Str):Prop:=sc.names.lookup x=some .local∨sc.names.lookup x=some .cell
def Look (env:Env) (h:Heap) (m:Str→Option Value) (x:Str) (u:Value):Prop :=
 (env.kindOf x=some .local∧m x=some u)∨((env.kindOf x=some .cell∨env.kindOf x=some .free)∧∃ c,env.cells.lookup x=some c∧h.IsCell c (some u))
structure Cx.Ok (X:Cx):Prop where
 mod:Mod X.K X.mg X.base
 kind:X.env.scope.kind=.function
 glob:X.env.globals=mainGlobals
 blt:X.env.builtins=builtinsNs
 above:X.s₀.heap.objs.size≤X.env.locals
 inj:∀ x y c,X.env.cells.lookup x=some c→X.env.cells.lookup y=some c→x=y
 has:∀ x,(X.env.kindOf x=some .cell∨X.env.kindOf x=some .free)→∃ c,X.env.cells.lookup x=some c
 cab:∀ x c,X.fn x=true→X.env.cells.lookup x=some c→X.s₀.heap.objs.size≤c
 hd:X.calm=true→X.A.handled=none
 frames:X.A.frames=some X.stack
 stk:X.stack=X.outer∨(X.stack=X.env::X.outer∧X.env.frame=some X.env.locals)
 exf:∀ b∈X.ex,b≠X.env.locals∧∀ x c,X.env.cells.lookup x=some c→c≠b
 bs:∀ b o,X.base.get? b=some o→X.s₀.heap.get? b=some o∧X.H₀ b=none
 bsz:X.base.objs.size≤X.s₀.heap.objs.size
 noex:∀ b o,X.base.get? b=some o→b∉X.ex
 exfs:∀ b∈X.ex,b∉X.fs
 funs:X.s₀.heap.FunFrames X.base X.outer
 frf:∀ b∈X.fs,X.H₀ b=none
structure Inv (X:Cx) (pins:List (Addr × Obj)) (σ:List (Option V)) (H:Hp) (s:Shared):Prop where
 ok:X.Ok
 os:s.os=X.s₀.os
 bare:AllBare s.gens
 base:Un X.fs X.ex X.H₀ H X.s₀.heap s.heap
 loc:∃ m,s.heap.Ns X.env.locals m∧∀ (i:Nat) (x:Str) (v:V),X.N[i]?=some x→σ[i]?=some (some v)→Vis X.env.scope x→∃ u,RelV v u∧Look X.env s.heap m x u
 cell:∀ x c,X.env.cells.lookup x=some c→∃ v,s.heap.IsCell c v
 free:H X.env.locals=none
 freeC:∀ x c,X.env.cells.lookup x=some c→H c=none
 pin:∀ p∈X.pn++pins,s.heap.get? p.1=some p.2∧H p.1=none∧p.1≠X.env.locals∧p.1∉X.fs∧∀ v,p.2.data≠.cell v
 hok:HOk X.prog X.w H s.heap
 len:σ.length=X.N.length
section
variable {X:Cx}{pins:List (Addr × Obj)}{σ:List (Option V)}{H H':Hp}{s:Shared}{h':Heap}
theorem Cx.Ok.nofr (ok:X.Ok) {b:Addr}{o:Obj} (e:X.base.get? b=some o):b∉X.fs:=fun hb=>by
 have:=(ok.funs.mem hb).1
 rw [e] at this; cases this
theorem Inv.bs (I:Inv X pins σ H s):∀ b o,X.base.get? b=some o→s.heap.get? b=some o∧H b=none:=fun b o e =>
 ⟨I.base.keep b o (I.ok.bs b o e).1 (I.ok.bs b o e).2 (I.ok.nofr e) (I.ok.noex b o e),I.base.free b o (I.ok.bs b o e).1 (I.ok.bs b o e).2 (I.ok.noex b o e)⟩
theorem Inv.bk (I:Inv X pins σ H s):∀ b o,X.base.get? b=some o→s.heap.get? b=some o:=fun b o e=>(I.bs b o e).1
theorem Inv.mod (I:Inv X pins σ H s):Mod X.K X.mg X.base:=I.ok.mod
theorem Inv.kIn (I:Inv X pins σ H s):X.K.In s.heap:=I.ok.mod.kin.keeps I.bk
theorem Inv.lt (I:Inv X pins σ H s):X.env.locals<s.heap.objs.size:=let ⟨_,hn,_⟩:=I.loc; hn.lt
theorem Inv.sz (I:Inv X pins σ H s):X.s₀.heap.objs.size≤s.heap.objs.size:=Nat.le_trans I.ok.above (Nat.le_of_lt I.lt)
theorem Inv.nofs (I:Inv X pins σ H s) {a:Addr} (h:s.heap.objs.size≤a):a∉X.fs:=fun hb=>by
 obtain ⟨_,o,ho,_⟩:=I.ok.funs.mem hb
 exact absurd (Nat.lt_of_lt_of_le (Heap.lt_size ho) (Nat.le_trans I.sz h)) (Nat.lt_irrefl _)
theorem Inv.cne (I:Inv X pins σ H s):∀ x c,X.env.cells.lookup x=some c→c≠X.env.locals:=fun x c e z=>by
 obtain ⟨v,o,ho,hd⟩:=I.cell x c e
 obtain ⟨m,⟨o',es,ep,ho',hd',_⟩,_⟩:=I.loc
 rw [z,ho'] at ho; cases ho; rw [hd'] at hd; cases hd
theorem Inv.funs (I:Inv X pins σ H s):s.heap.FunFrames X.base X.outer:=by
 have all:∀ (l:List Env),(∀ b∈frs l,b∈X.fs)→X.s₀.heap.FunFrames X.base l→s.heap.FunFrames X.base l:=by
  intro l
  induction l with
  | nil=>intro _ _; trivial
  | cons env r ih =>
   intro hs hl
   obtain ⟨hk,⟨L,o,hf,hn,ho,hd⟩,hr⟩:=hl
   have hL:L∈X.fs:=hs L (by unfold frs; rw [List.filterMap_cons,hf]; exact List.mem_cons_self)
   obtain ⟨sl,e⟩:=I.base.slot L o ho (I.ok.frf L hL) hL fun z=>I.ok.exfs L z hL
   exact ⟨hk,⟨L,_,hf,hn,e,hd⟩,ih (fun b hb=>hs b (by unfold frs; rw [List.filterMap_cons,hf]; exact List.mem_cons_of_mem _ hb)) hr⟩
 exact all X.outer (fun _ hb=>hb) I.ok.funs
theorem Inv.stack (I:Inv X pins σ H s):s.heap.FunFrames X.base X.stack:=by
 rcases I.ok.stk with e | ⟨e,hf⟩
 ·rw [e]; exact I.funs
 ·rw [e]
  obtain ⟨m,hn,_⟩:=I.loc
  refine .cons (by rw [I.ok.kind]; decide) hf hn ?_ I.funs
  exact Heap.get?_none_of_le (Nat.le_trans I.ok.bsz I.ok.above)
theorem Inv.stkSub (I:Inv X pins σ H s):∀ b∈frs X.stack,b∈X.env.locals::X.fs:=fun b hb=>by
 rcases I.ok.stk with e | ⟨e,hf⟩
 ·rw [e] at hb; exact List.mem_cons_of_mem _ hb
 ·rw [e] at hb
  unfold frs at hb
  rw [List.filterMap_cons,hf] at hb
  exact hb
theorem Inv.stkFree (I:Inv X pins σ H s):∀ b∈frs X.stack,H b=none:=fun b hb=>by
 rcases List.mem_cons.mp (I.stkSub b hb) with e | hb
 ·rw [e]; exact I.free
 ·obtain ⟨_,o,ho,_⟩:=I.ok.funs.mem hb
  exact I.base.free b o ho (I.ok.frf b hb) fun z=>I.ok.exfs b z hb
theorem Inv.step {g':Array GenState}{t':Nat}{d':Drawn}{ch:List Addr} (I:Inv X pins σ H s)
  (hch:∀ b∈ch,(b∈X.ex∨X.s₀.heap.objs.size≤b)∧b≠X.env.locals∧(∀ x c,X.env.cells.lookup x=some c→c≠b)∧∀ p∈X.pn++pins,p.1≠b)
  (keep:∀ b o,b≠X.env.locals→b∉X.fs→b∉ch→s.heap.get? b=some o→H b=none→h'.get? b=some o)
  (slot:∀ b o,b≠X.env.locals→b∈X.fs→b∉ch→s.heap.get? b=some o→H b=none→∃ sl,h'.get? b=some { o with slots:=sl }) (free:∀ b o,b∉ch→s.heap.get? b=some o→H b=none→H' b=none)
  (there:∀ b o,b∉ch→s.heap.get? b=some o→∃ o',h'.get? b=some o')
  (tups:∀ b xs,H b=some (.tup xs)→H' b=some (.tup xs)) (frzs:∀ b o u,H b=some (.frz o u)→H' b=some (.frz o u)) (tbls:∀ b ps,H b=some (.tbl ps)→∃ more,H' b=some (.tbl (ps++more)))
  (ns:∀ m,s.heap.Ns X.env.locals m→h'.Ns X.env.locals m) (hok:HOk X.prog X.w H' h') (hg:AllBare g') :
  Inv X pins σ H' { s with heap:=h',gens:=g',drawn:=d',toks:=t' }:=by
 have neL:∀ b o,X.s₀.heap.get? b=some o→b≠X.env.locals:=fun b o e=>Nat.ne_of_lt (Nat.lt_of_lt_of_le (Heap.lt_size e) I.ok.above)
 have neC:∀ b o,X.s₀.heap.get? b=some o→b∉X.ex→b∉ch:=fun b o e hx hb=>by
  rcases (hch b hb).1 with z | z
  ·exact hx z
  ·exact absurd (Nat.lt_of_lt_of_le (Heap.lt_size e) z) (Nat.lt_irrefl _)
 have cellK:∀ x c,X.env.cells.lookup x=some c→∀ v,s.heap.IsCell c v→h'.IsCell c v:=fun x c e v ⟨o,ho,hd⟩=>by
  have nch:c∉ch:=fun z=>(hch c z).2.2.1 x c e rfl
  by_cases hc:c∈X.fs
  ·obtain ⟨sl,q⟩:=slot c o (I.cne x c e) hc nch ho (I.freeC x c e)
   exact ⟨_,q,hd⟩
  ·exact ⟨o,keep c o (I.cne x c e) hc nch ho (I.freeC x c e),hd⟩
 refine ⟨I.ok,I.os,hg,⟨fun b o e n hb hx=>?_,fun b o e n hb hx=>?_,fun b o e n hx=>?_,fun b o e hx=>?_,fun b xs e=>tups b xs (I.base.tups b xs e),fun b o xs e=>frzs b o xs (I.base.frzs b o xs e),fun b ps e=>?_⟩,?_,fun x c e=>?_,?_,fun x c e=>?_,fun p hp=>?_,hok,I.len⟩
 ·exact keep b o (neL b o e) hb (neC b o e hx) (I.base.keep b o e n hb hx) (I.base.free b o e n hx)
 ·obtain ⟨sl,e1⟩:=I.base.slot b o e n hb hx
  obtain ⟨sl',e2⟩:=slot b _ (neL b o e) hb (neC b o e hx) e1 (I.base.free b o e n hx)
  exact ⟨sl',e2⟩
 ·obtain ⟨o',e1⟩:=I.base.there b o e hx
  exact free b o' (neC b o e hx) e1 (I.base.free b o e n hx)
 ·obtain ⟨o',e1⟩:=I.base.there b o e hx
  exact there b o' (neC b o e hx) e1
 ·obtain ⟨m1,e1⟩:=I.base.tbls b ps e
  obtain ⟨m2,e2⟩:=tbls b _ e1
  exact ⟨m1++m2,by rw [e2,Array.append_assoc]⟩
 ·obtain ⟨m,hn,hl⟩:=I.loc
  refine ⟨m,ns m hn,fun i x v e1 e2 e3=>?_⟩
  obtain ⟨u,r,l⟩:=hl i x v e1 e2 e3
  refine ⟨u,r,?_⟩
  rcases l with l | ⟨k,c,e,z⟩
  ·exact .inl l
  ·exact .inr ⟨k,c,e,cellK x c e _ z⟩
 ·obtain ⟨v,z⟩:=I.cell x c e
  exact ⟨v,cellK x c e v z⟩
 ·obtain ⟨m,⟨o,_,_,ho,_⟩,_⟩:=I.loc
  exact free _ o (fun z=>(hch _ z).2.1 rfl) ho I.free
 ·obtain ⟨v,o,ho,hd⟩:=I.cell x c e
  exact free c o (fun z=>(hch c z).2.2.1 x c e rfl) ho (I.freeC x c e)
 ·obtain ⟨e,n,ne,nf,d⟩:=I.pin p hp
  have nch:p.1∉ch:=fun z=>(hch p.1 z).2.2.2 p hp rfl
  exact ⟨keep p.1 p.2 ne nf nch e n,free p.1 p.2 nch e n,ne,nf,d⟩
theorem Inv.un {t':Nat} (I:Inv X pins σ H s) (u:Un X.fs [] H H' s.heap h') (hok:HOk X.prog X.w H' h'):Inv X pins σ H' { s with heap:=h',toks:=t' }:=by
 obtain ⟨m,⟨o,es,ep,ho,r⟩,_⟩:=id I.loc
 obtain ⟨sl,hL⟩:=u.any ho I.free (by simp)
 exact I.step (g':=s.gens) (d':=s.drawn) (ch:=[]) (fun _ z=>nomatch z) (fun b o _ hb _ e n=>u.keep b o e n hb (by simp)) (fun b o _ hb _ e n=>u.slot b o e n hb (by simp)) (fun b o _ e n=>u.free b o e n (by simp)) (fun b o _ e=>u.there b o e (by simp)) u.tups u.frzs u.tbls (fun m' hm=>by
  obtain ⟨o',es',ep',ho',r'⟩:=hm
  rw [ho] at ho'; cases ho'
  exact ⟨_,es',ep',hL,r'⟩) hok I.bare
theorem Inv.call {g':Array GenState}{t':Nat}{d':Drawn}{ch:List Addr} (I:Inv X pins σ H s) (u:Un (frs X.stack) ch H H' s.heap h') (hok:HOk X.prog X.w H' h') (hg:AllBare g')
  (hch:∀ b∈ch,(b∈X.ex∨X.s₀.heap.objs.size≤b)∧b≠X.env.locals∧(∀ x c,X.env.cells.lookup x=some c→c≠b)∧∀ p∈X.pn++pins,p.1≠b) :
  Inv X pins σ H' { s with heap:=h',gens:=g',drawn:=d',toks:=t' }:=by
 obtain ⟨m,⟨o,es,ep,ho,r⟩,_⟩:=id I.loc
 obtain ⟨sl,hL⟩:=u.any ho I.free fun z=>(hch _ z).2.1 rfl
 exact I.step (ch:=ch) hch (fun b o hL hb hc e n=>u.keep b o e n (fun z=>(List.mem_cons.mp (I.stkSub b z)).elim hL hb) hc) (fun b o _ _ hc e n=>u.any e n hc) (fun b o hc e n=>u.free b o e n hc) (fun b o hc e=>u.there b o e hc) u.tups u.frzs u.tbls (fun m' hm=>by
  obtain ⟨o',es',ep',ho',r'⟩:=hm
  rw [ho] at ho'; cases ho'
  exact ⟨_,es',ep',hL,r'⟩) hok hg
theorem Inv.turned {t':Nat}{it:Addr} (I:Inv X pins σ H s) (k:∀ b o,b≠it→s.heap.get? b=some o→h'.get? b=some o) (hn:H it=none) (hL:it≠X.env.locals)
  (h1:it∈X.ex∨X.s₀.heap.objs.size≤it) (h2:∀ x c,X.env.cells.lookup x=some c→c≠it) (h3:∀ p∈X.pn++pins,p.1≠it):Inv X pins σ H { s with heap:=h',toks:=t' }:=by
 have nit:∀ b u,H b=some u→b≠it:=fun b u e z=>by rw [z,hn] at e; cases e
 refine I.step (g':=s.gens) (d':=s.drawn) (ch:=[it]) (fun b hb=>?_) (fun b o _ _ hc e _=>k b o (fun z=>hc (by simp [z])) e) (fun b o _ _ hc e _=>⟨o.slots,k b o (fun z=>hc (by simp [z])) e⟩) (fun _ _ _ _ n=>n)
  (fun b o hc e=>⟨o,k b o (fun z=>hc (by simp [z])) e⟩) (fun _ _ e=>e) (fun _ _ _ e=>e) (fun b ps e=>⟨#[],by rw [e]; simp⟩) (fun m hm=>?_) (fun b u e=>?_) I.bare
 ·have e:b=it:=by simpa using hb
  subst e
  exact ⟨h1,hL,h2,h3⟩
 ·obtain ⟨o,es,ep,ho,r⟩:=hm
  exact ⟨o,es,ep,k _ o (Ne.symm hL) ho,r⟩
 ·refine (I.hok b u e).stay (fun c v hc q=>k c v ?_ q) (fun _ q=>q) fun _ _ q=>q
  rcases hc with z | z
  ·rw [z]; exact nit b u e
  ·exact nit c _ z
theorem Inv.tok (I:Inv X pins σ H s) (t:Nat):Inv X pins σ H { s with toks:=t }:=I.un (h':=s.heap) (t':=t) Un.refl I.hok
theorem Inv.kept {t':Nat} (I:Inv X pins σ H s) (k:∀ b u,s.heap.get? b=some u→h'.get? b=some u):Inv X pins σ H { s with heap:=h',toks:=t' }:=I.un (Un.kept k) (I.hok.kept k)
theorem Inv.laid {a:Addr}{o:HO}{t':Nat} (I:Inv X pins σ H s) (k:∀ b u,s.heap.get? b=some u→h'.get? b=some u) (hp:s.heap.objs.size≤a) (new:ObjOk X.prog X.w (upd H a o) h' a o) :
  Inv X pins σ (upd H a o) { s with heap:=h',toks:=t' }:=I.un (Un.laid k hp (I.hok.fresh hp)) (I.hok.laid k hp new)
theorem Inv.write {x e:Addr}{o:HO}{t':Nat} (I:Inv X pins σ H s) (mu:Mut (H x)) (he:e=x∨H e=some (.own x)) (k:∀ b u,b≠e→s.heap.get? b=some u→h'.get? b=some u) (heo:∃ u,h'.get? e=some u)
  (new:ObjOk X.prog X.w (upd H x o) h' x o):Inv X pins σ (upd H x o) { s with heap:=h',toks:=t' }:=I.un (Un.write mu he k heo) (I.hok.write mu he k heo new)
theorem Inv.weak {σ':List (Option V)} (I:Inv X pins σ H s) (hl:σ'.length=σ.length) (w:∀ (i:Nat) v,σ'[i]?=some (some v)→σ[i]?=some (some v)):Inv X pins σ' H s :=
 ⟨I.ok,I.os,I.bare,I.base,let ⟨m,hn,hl'⟩:=I.loc; ⟨m,hn,fun i x v e1 e2 e3=>hl' i x v e1 (w i v e2) e3⟩,I.cell,I.free,I.freeC,I.pin,I.hok,hl.trans I.len⟩
theorem Inv.pins_of {pins':List (Addr × Obj)} (I:Inv X pins σ H s) (h:∀ p∈pins',s.heap.get? p.1=some p.2∧H p.1=none∧p.1≠X.env.locals∧p.1∉X.fs∧∀ v,p.2.data≠.cell v):Inv X pins' σ H s :=
 ⟨I.ok,I.os,I.bare,I.base,I.loc,I.cell,I.free,I.freeC,fun p hp=>(List.mem_append.mp hp).elim (fun z=>I.pin p (List.mem_append_left _ z)) (h p),I.hok,I.len⟩
theorem nodup_ix {N:List Str} (hN:N.Nodup) {i j:Nat}{x:Str} (a:N[i]?=some x) (b:N[j]?=some x):i=j:=by
 obtain ⟨h1,e1⟩:=List.getElem?_eq_some_iff.mp a
 obtain ⟨h2,e2⟩:=List.getElem?_eq_some_iff.mp b
 exact (List.getElem_inj hN).mp (e1.trans e2.symm)
theorem store_ok2 {M:Model}{A:Around}{E:Value→Shared→Prop}{i:Nat}{x:Str}{v:V}{u:Value}{Q:Unit→Shared→Prop} (I:Inv X pins σ H s) (hN:X.N.Nodup) (hi:X.N[i]?=some x) (hx:Loc X.env.scope x) (r:RelV v u)
  (h:∀ s',Inv X pins (σ.set i (some v)) H s'→(∃ a,Heap.SameBut a s.heap s'.heap∧(a=X.env.locals∨X.env.cells.lookup x=some a))→Q () s') (hf:X.fn x=true∨X.env.scope.names.lookup x=some .local:=by first | exact .inl rfl | exact .inr rfl | assumption):wpAny M A (storeName X.env x u) Q E s:=by
 obtain ⟨m,hn,hl⟩:=id I.loc
 have hcls:(X.env.scope.kind == .class||(X.env.scope.kind == .module&&X.env.locals != X.env.globals))=false:=by rw [I.ok.kind]; rfl
 have hiσ:i<σ.length:=by rw [I.len]; exact (List.getElem?_eq_some_iff.mp hi).1
 have cne:=I.cne
 have tracked:∀ {a:Addr}{h':Heap},(∃ o,s.heap.get? a=some o∧H a=none)→Heap.SameBut a s.heap h'→HOk X.prog X.w H h':=fun {a h'} ha hs b ob e=>by
  obtain ⟨_,_,hfree⟩:=ha
  refine (I.hok b ob e).stay (fun c w' hc q=>(hs.2 c ?_).trans q) (fun _ q=>q) fun _ _ q=>q
  rintro rfl
  rcases hc with rfl | hc
  ·rw [hfree] at e; cases e
  ·rw [hfree] at hc; cases hc
 rcases hx with hk | hk
 ·refine wpAny_storeName_local hk hn (fun h' hn' hs=>?_) hcls
  obtain ⟨oL,_,_,hoL,_⟩:=id hn
  refine h _ ⟨I.ok,I.os,I.bare,⟨fun b o e n hb hx=>?_,fun b o e n hb hx=>?_,I.base.free,fun b o e hx=>?_,I.base.tups,I.base.frzs,I.base.tbls⟩,⟨_,hn',fun j y v' e1 e2 e3=>?_⟩,fun y c e=>?_,I.free,I.freeC,fun p hp=>?_,tracked ⟨oL,hoL,I.free⟩ hs,by simpa using I.len⟩ ⟨_,hs,.inl rfl⟩
  ·exact (hs.2 b (Nat.ne_of_lt (Nat.lt_of_lt_of_le (Heap.lt_size e) I.ok.above))).trans (I.base.keep b o e n hb hx)
  ·obtain ⟨sl,e1⟩:=I.base.slot b o e n hb hx
   exact ⟨sl,(hs.2 b (Nat.ne_of_lt (Nat.lt_of_lt_of_le (Heap.lt_size e) I.ok.above))).trans e1⟩
  ·obtain ⟨o',e1⟩:=I.base.there b o e hx
   exact ⟨o',(hs.2 b (Nat.ne_of_lt (Nat.lt_of_lt_of_le (Heap.lt_size e) I.ok.above))).trans e1⟩
  ·by_cases hj:j=i
   ·subst hj
    rw [hi] at e1; cases e1
    rw [List.getElem?_set_self hiσ] at e2
    cases e2
    exact ⟨u,r,.inl ⟨hk,by simp⟩⟩
   ·rw [List.getElem?_set_ne (Ne.symm hj)] at e2
    obtain ⟨u',r',q⟩:=hl j y v' e1 e2 e3
    refine ⟨u',r',?_⟩
    rcases q with ⟨k,e⟩ | ⟨k,c,e,z⟩
    ·refine .inl ⟨k,?_⟩
     have:y≠x:=fun e=>hj (nodup_ix hN e1 (e▸hi))
     simp [this,e]
    ·exact .inr ⟨k,c,e,z.sameBut hs (cne y c e)⟩
  ·obtain ⟨w',z⟩:=I.cell y c e
   exact ⟨w',z.sameBut hs (cne y c e)⟩
  ·obtain ⟨e,n,ne,nf,d⟩:=I.pin p hp
   exact ⟨(hs.2 p.1 ne).trans e,n,ne,nf,d⟩
 ·have hfn:X.fn x=true:=by
   rcases hf with z | z
   ·exact z
   ·rw [z] at hk; cases hk
  obtain ⟨c,hc⟩:=I.ok.has x (.inl hk)
  obtain ⟨w',z⟩:=I.cell x c hc
  refine wpAny_storeName_cell I.ok.kind hk hc z (fun h' hc' hs=>?_)
  obtain ⟨oc,hoc,hocd⟩:=id z
  refine h { s with heap:=h' } ⟨I.ok,I.os,I.bare,⟨fun b o e n hb hx=>?_,fun b o e n hb hx=>?_,I.base.free,fun b o e hx=>?_,I.base.tups,I.base.frzs,I.base.tbls⟩,⟨m,hn.sameBut hs (Ne.symm (cne x c hc)),fun j y v' e1 e2 e3=>?_⟩,fun y c' e=>?_,I.free,I.freeC,fun p hp=>?_,tracked ⟨oc,hoc,I.freeC x c hc⟩ hs,by simpa using I.len⟩ ⟨c,hs,.inr hc⟩
  ·exact (hs.2 b (Nat.ne_of_lt (Nat.lt_of_lt_of_le (Heap.lt_size e) (I.ok.cab x c hfn hc)))).trans (I.base.keep b o e n hb hx)
  ·obtain ⟨sl,e1⟩:=I.base.slot b o e n hb hx
   exact ⟨sl,(hs.2 b (Nat.ne_of_lt (Nat.lt_of_lt_of_le (Heap.lt_size e) (I.ok.cab x c hfn hc)))).trans e1⟩
  ·obtain ⟨o',e1⟩:=I.base.there b o e hx
   exact ⟨o',(hs.2 b (Nat.ne_of_lt (Nat.lt_of_lt_of_le (Heap.lt_size e) (I.ok.cab x c hfn hc)))).trans e1⟩
  ·by_cases hj:j=i
   ·subst hj
    rw [hi] at e1; cases e1
    rw [List.getElem?_set_self hiσ] at e2
    cases e2
    exact ⟨u,r,.inr ⟨.inl hk,c,hc,hc'⟩⟩
   ·rw [List.getElem?_set_ne (Ne.symm hj)] at e2
    obtain ⟨u',r',q⟩:=hl j y v' e1 e2 e3
    refine ⟨u',r',?_⟩
    rcases q with q | ⟨k,c',e,z'⟩
    ·exact .inl q
    ·refine .inr ⟨k,c',e,z'.sameBut hs ?_⟩
     rintro rfl
     exact hj (nodup_ix hN e1 (I.ok.inj _ _ _ e hc▸hi))
  ·by_cases hcc:c'=c
   ·subst hcc; exact ⟨_,hc'⟩
   ·obtain ⟨w2,z2⟩:=I.cell y c' e
    exact ⟨w2,z2.sameBut hs hcc⟩
  ·obtain ⟨e,n,ne,nf,d⟩:=I.pin p hp
   refine ⟨(hs.2 p.1 ?_).trans e,n,ne,nf,d⟩
   intro q
   rw [q,hoc] at e
   have q':oc=p.2:=Option.some.inj e
   exact d w' (by rw [← q']; exact hocd)
theorem store_ok {M:Model}{A:Around}{E:Value→Shared→Prop}{i:Nat}{x:Str}{v:V}{u:Value}{Q:Unit→Shared→Prop} (I:Inv X pins σ H s) (hN:X.N.Nodup) (hi:X.N[i]?=some x) (hx:Loc X.env.scope x) (r:RelV v u)
  (h:∀ s',Inv X pins (σ.set i (some v)) H s'→Q () s') (hf:X.fn x=true∨X.env.scope.names.lookup x=some .local:=by first | exact .inl rfl | exact .inr rfl | assumption):wpAny M A (storeName X.env x u) Q E s :=
 store_ok2 I hN hi hx r (fun s' I' _=>h s' I') hf
theorem Inv.call' {s':Shared}{ch:List Addr} (I:Inv X pins σ H s) (ho:s'.os=s.os) (u:Un (frs X.stack) ch H H' s.heap s'.heap) (hok:HOk X.prog X.w H' s'.heap) (hg:AllBare s'.gens)
  (hch:∀ b∈ch,(b∈X.ex∨X.s₀.heap.objs.size≤b)∧b≠X.env.locals∧(∀ x c,X.env.cells.lookup x=some c→c≠b)∧∀ p∈X.pn++pins,p.1≠b):Inv X pins σ H' s':=by
 obtain ⟨h',g',d',t',o'⟩:=s'
 have e:o'=s.os:=ho
 subst e
 exact I.call (g':=g') (t':=t') (d':=d') u hok hg hch
end
noncomputable abbrev XK:=Value→Option Addr→Hp→Prop
noncomputable abbrev St:=List (Option V)
noncomputable abbrev VK:=V→Hp→Prop
noncomputable abbrev TE:=St→Hp→VK→Prop
noncomputable abbrev TT:=St→Hp→(Bool→Hp→Prop)→Prop
noncomputable abbrev TA:=St→Hp→(List V→Hp→Prop)→Prop
structure Ends where
 nx:St→Hp→Prop
 rt:VK
 bk:St→Hp→Prop:=fun _ _=>False
 ct:St→Hp→Prop:=fun _ _=>False
noncomputable abbrev TS:=Ends→St→Hp→Prop
inductive EP (X:Cx) (pins:List (Addr × Obj)) (σ:St) (Q:VK) (u:Value) (s':Shared):Prop
 | mk (v:V) (H':Hp) (I:Inv X pins σ H' s') (r:RelV v u) (q:Q v H')
inductive TP (X:Cx) (pins:List (Addr × Obj)) (σ:St) (Q:Bool→Hp→Prop) (b:Bool) (s':Shared):Prop
 | mk (H':Hp) (I:Inv X pins σ H' s') (q:Q b H')
inductive AP (X:Cx) (pins:List (Addr × Obj)) (σ:St) (Q:List V→Hp→Prop) (us:List Value) (s':Shared):Prop
 | mk (vs:List V) (H':Hp) (I:Inv X pins σ H' s') (r:Vals vs us) (q:Q vs H')
def SP (X:Cx) (pins:List (Addr × Obj)) (D:Ends) (f:Flow) (s':Shared):Prop :=
 match f with
 | .next=>∃ σ' H',Inv X pins σ' H' s'∧D.nx σ' H'
 | .brk=>∃ σ' H',Inv X pins σ' H' s'∧D.bk σ' H'
 | .cont=>∃ σ' H',Inv X pins σ' H' s'∧D.ct σ' H'
 | .ret u=>∃ v σ' H',Inv X pins σ' H' s'∧RelV v u∧D.rt v H'
def PE (X:Cx) (e:Expr) (t:TE):Prop :=
 ∀ (pins:List (Addr × Obj)) (s:Shared) (σ:St) (H:Hp) (Q:VK),Inv X pins σ H s→t σ H Q→wpAny (model X.prog X.w) X.A (eval e X.env) (EP X pins σ Q) X.xe s
def PT (X:Cx) (e:Expr) (t:TT):Prop :=
 ∀ (pins:List (Addr × Obj)) (s:Shared) (σ:St) (H:Hp) (Q:Bool→Hp→Prop),Inv X pins σ H s→t σ H Q→wpAny (model X.prog X.w) X.A (isTrue e X.env (eval e X.env)) (TP X pins σ Q) X.xe s
def PW (X:Cx) (e:Expr) (t:TT):Prop :=
 ∀ (whole:Sem Value) (pins:List (Addr × Obj)) (s:Shared) (σ:St) (H:Hp) (Q:Bool→Hp→Prop),Inv X pins σ H s→t σ H Q→wpAny (model X.prog X.w) X.A (isTrue e X.env whole) (TP X pins σ Q) X.xe s
theorem PW.pt {X:Cx}{e:Expr}{t:TT} (h:PW X e t):PT X e t:=h _
def PA (X:Cx) (es:List Expr) (t:TA):Prop :=
 ∀ (pos:Pos) (pins:List (Addr × Obj)) (s:Shared) (σ:St) (H:Hp) (Q:List V→Hp→Prop),Inv X pins σ H s→t σ H Q→wpAny (model X.prog X.w) X.A (spliced (backTo pos (starEach es X.env))) (AP X pins σ Q) X.xe s
def PS (X:Cx) (st:Stmt) (t:TS):Prop :=
 ∀ (pins:List (Addr × Obj)) (s:Shared) (σ:St) (H:Hp) (D:Ends),Inv X pins σ H s→t D σ H→wpAny (model X.prog X.w) X.A (exec st X.env) (SP X pins D) X.xe s
def PSs (X:Cx) (st:List Stmt) (t:TS):Prop :=
 ∀ (pins:List (Addr × Obj)) (s:Shared) (σ:St) (H:Hp) (D:Ends),Inv X pins σ H s→t D σ H→wpAny (model X.prog X.w) X.A (execs st X.env) (SP X pins D) X.xe s
theorem thn {α:Type}{t:Sem α}{Q Q':α→Shared→Prop}{M:Model}{A:Around}{E:Value→Shared→Prop}{s:Shared} (h:wpAny M A t Q E s) (hQ:∀ a s,Q a s→Q' a s):wpAny M A t Q' E s:=wpAny_mono h hQ fun _ _ x=>x
section
variable {X:Cx}
noncomputable def tVar (i:Nat):TE:=fun σ H Q=>∃ v,σ[i]?=some (some v)∧Q v H
noncomputable def tC (v:V):TE:=fun _ H Q=>Q v H
theorem pe_var {i:Nat}{x:Str}{pos:Pos} (hN:X.N[i]?=some x) (hv:Vis X.env.scope x) (hd:(x == ("__debug__":Str))=false:=by decide) (hcd:(x == ("__classdict__":Str))=false:=by decide):PE X (.Name x pos) (tVar i):=by
 intro pins s σ H Q I h
 obtain ⟨v,e,h⟩:=h
 obtain ⟨m,hn,hl⟩:=I.loc
 obtain ⟨u,r,l⟩:=hl i x v hN e hv
 have fin:EP X pins σ Q u s:=⟨v,H,I,r,h⟩
 rcases l with ⟨hk,hm⟩ | ⟨hk,c,hc,hcell⟩
 ·exact wpAny_Name (wpAny_loadName_local I.ok.kind hk hn hm fin) hd
 ·rcases hk with hk | hk
  ·exact wpAny_Name (wpAny_loadName_cell I.ok.kind hk hc hcell fin) hd
  ·exact wpAny_Name (wpAny_loadName_free I.ok.kind hk hc hcell fin hcd) hd
theorem pe_int {i j pos}:PE X (.Constant (.int i) j pos) (tC (.int i)):=fun _ _ _ H _ I h=>wpAny_Constant_int ⟨.int i,H,I.tok _,⟨_,rfl⟩,h⟩
theorem pe_bl {b j pos}:PE X (.Constant (.bool b) j pos) (tC (.bl b)):=fun _ _ _ H _ I h=>Constant_bool ⟨.bl b,H,I,rfl,h⟩
theorem pe_non {j pos}:PE X (.Constant .none j pos) (tC .non):=fun _ _ _ H _ I h=>Constant_none ⟨.non,H,I,rfl,h⟩
theorem pe_str {x j pos}:PE X (.Constant (.str x) j pos) (tC (.str x)):=fun _ _ _ H _ I h=>Calls.Constant_str ⟨.str x,H,I.tok _,⟨_,rfl⟩,h⟩
def Gl (X:Cx) (x:Str):Prop:=X.env.kindOf x=some .globalImplicit
theorem ld_glob {E:Value→Shared→Prop}{pins:List (Addr × Obj)}{s:Shared}{σ:St}{H:Hp}{x:Str}{u:Value}{pos:Pos}{Q:Value→Shared→Prop} (I:Inv X pins σ H s) (hg:Gl X x) (hm:X.mg x=some u) (h:Q u s)
  (hd:(x == ("__debug__":Str))=false:=by decide):wpAny (model X.prog X.w) X.A (eval (.Name x pos) X.env) Q E s :=
 Calls.Name_function_global I.ok.kind hg (Calls.loadGlobal_global (by rw [I.ok.glob]; exact I.mod.glob.keeps I.bk) hm h) hd
theorem ld_blt {E:Value→Shared→Prop}{pins:List (Addr × Obj)}{s:Shared}{σ:St}{H:Hp}{x:Str}{u:Value}{pos:Pos}{Q:Value→Shared→Prop} (I:Inv X pins σ H s) (hg:Gl X x) (hm:X.mg x=none) (hv:bootBuiltins x=some u) (h:Q u s)
  (hn:x ≠ "__name__":=by decide) (hd:(x == ("__debug__":Str))=false:=by decide):wpAny (model X.prog X.w) X.A (eval (.Name x pos) X.env) Q E s:=by
 obtain ⟨mb,h1,h2⟩:=I.mod.blt
 exact Calls.Name_function_global I.ok.kind hg (Calls.loadGlobal_builtin (by rw [I.ok.glob]; exact I.mod.glob.keeps I.bk) hm (by rw [I.ok.blt]; exact h1.keeps I.bk) ((h2 x hn).trans hv) h) hd
theorem pe_glob {x:Str}{v:V}{u:Value}{pos:Pos} (hg:Gl X x) (hm:X.mg x=some u) (r:RelV v u) (hd:(x == ("__debug__":Str))=false:=by decide):PE X (.Name x pos) (tC v) :=
 fun _ _ _ H _ I h=>ld_glob I hg hm ⟨v,H,I,r,h⟩ hd
theorem pe_bltn {x:Str}{v:V}{u:Value}{pos:Pos} (hg:Gl X x) (hm:X.mg x=none) (hv:bootBuiltins x=some u) (r:RelV v u) (hn:x ≠ "__name__":=by decide) (hd:(x == ("__debug__":Str))=false:=by decide):PE X (.Name x pos) (tC v) :=
 fun _ _ _ H _ I h=>ld_blt I hg hm hv ⟨v,H,I,r,h⟩ hn hd
variable {a b:Expr}{ta tb:TE}{pos:Pos}
variable {tA tB':TT}{rest:List Expr}
noncomputable def tAnd (t u:TT):TT:=fun σ H Q=>t σ H fun c H1=>if c=true then u σ H1 Q else Q false H1
noncomputable def tOr (t u:TT):TT:=fun σ H Q=>t σ H fun c H1=>if c=true then Q true H1 else u σ H1 Q
noncomputable def tNot (t:TT):TT:=fun σ H Q=>t σ H fun c H1=>Q (!c) H1
theorem pw_and1 (ha:PT X a tA):PW X (.BoolOp .And [a] pos) tA:=by
 intro wh pins s σ H Q I h
 refine isTrue_and (thn (ha pins s σ H Q I h) fun c s1 e=>?_)
 cases c with
 | true=>exact isTrue_and_nil e
 | false=>exact e
theorem pw_or1 (ha:PT X a tA):PW X (.BoolOp .Or [a] pos) tA:=by
 intro wh pins s σ H Q I h
 refine isTrue_or (thn (ha pins s σ H Q I h) fun c s1 e=>?_)
 cases c with
 | false=>exact isTrue_or_nil e
 | true=>exact e
theorem pw_and (ha:PT X a tA) (hb:PW X (.BoolOp .And (b::rest) pos) tB'):PW X (.BoolOp .And (a::b::rest) pos) (tAnd tA tB'):=by
 intro wh pins s σ H Q I h
 refine isTrue_and (thn (ha pins s σ H _ I h) fun c s1 ⟨H1,I1,q1⟩=>?_)
 cases c with
 | true=>exact hb wh pins s1 σ H1 Q I1 q1
 | false=>exact ⟨H1,I1,q1⟩
theorem pw_or (ha:PT X a tA) (hb:PW X (.BoolOp .Or (b::rest) pos) tB'):PW X (.BoolOp .Or (a::b::rest) pos) (tOr tA tB'):=by
 intro wh pins s σ H Q I h
 refine isTrue_or (thn (ha pins s σ H _ I h) fun c s1 ⟨H1,I1,q1⟩=>?_)
 cases c with
 | true=>exact ⟨H1,I1,q1⟩
 | false=>exact hb wh pins s1 σ H1 Q I1 q1
theorem pt_not (ha:PT X a tA):PT X (.UnaryOp .Not a pos) (tNot tA):=by
 intro pins s σ H Q I h
 exact isTrue_not (thn (ha pins s σ H (fun c H1=>Q (!c) H1) I h) fun c s' ⟨H',I',q⟩=>⟨H',I',q⟩)
noncomputable def tAndV (ta tb:TE):TE:=fun σ H Q=>ta σ H fun x H1=>∃ c,x=.bl c∧if c=true then tb σ H1 Q else Q (.bl false) H1
noncomputable def tOrV (ta tb:TE):TE:=fun σ H Q=>ta σ H fun x H1=>∃ c,x=.bl c∧if c=true then Q (.bl true) H1 else tb σ H1 Q
noncomputable def tNotV (ta:TE):TE:=fun σ H Q=>ta σ H fun x H1=>∃ c,x=.bl c∧Q (.bl (!c)) H1
theorem pe_one {op}{t:TE} (h:PE X a t):PE X (.BoolOp op [a] pos) t:=fun pins s σ H Q I hw=>BoolOp_one (h pins s σ H Q I hw)
theorem pe_and (ha:PE X a ta) (hb:PE X (.BoolOp .And (b::rest) pos) tb):PE X (.BoolOp .And (a::b::rest) pos) (tAndV ta tb):=by
 intro pins s σ H Q I h
 refine BoolOp_and (thn (ha pins s σ H _ I h) fun v s1 ⟨x,H1,I1,r1,q1⟩=>?_)
 obtain ⟨c,rfl,q1⟩:=q1
 cases r1
 refine wpAny_truthy_bool ?_
 cases c with
 | true=>exact hb pins s1 σ H1 Q I1 q1
 | false=>exact ⟨.bl false,H1,I1,rfl,q1⟩
theorem pe_or (ha:PE X a ta) (hb:PE X (.BoolOp .Or (b::rest) pos) tb):PE X (.BoolOp .Or (a::b::rest) pos) (tOrV ta tb):=by
 intro pins s σ H Q I h
 refine BoolOp_or (thn (ha pins s σ H _ I h) fun v s1 ⟨x,H1,I1,r1,q1⟩=>?_)
 obtain ⟨c,rfl,q1⟩:=q1
 cases r1
 refine wpAny_truthy_bool ?_
 cases c with
 | false=>exact hb pins s1 σ H1 Q I1 q1
 | true=>exact ⟨.bl true,H1,I1,rfl,q1⟩
theorem pe_not (ha:PE X a ta):PE X (.UnaryOp .Not a pos) (tNotV ta):=by
 intro pins s σ H Q I h
 refine UnaryOp_ (thn (ha pins s σ H _ I h) fun v s1 ⟨x,H1,I1,r1,q1⟩=>?_)
 obtain ⟨c,rfl,q1⟩:=q1
 cases r1
 exact not_of (wpAny_truthy_bool ⟨.bl (!c),H1,I1,rfl,q1⟩)
noncomputable def tIf (t:TT) (ta tb:TE):TE:=fun σ H Q=>t σ H fun c H1=>if c=true then ta σ H1 Q else tb σ H1 Q
theorem pe_ifExp {c:Expr} (hc:PT X c tA) (ha:PE X a ta) (hb:PE X b tb):PE X (.IfExp c a b pos) (tIf tA ta tb):=by
 intro pins s σ H Q I h
 refine wpAny_IfExp (thn (hc pins s σ H _ I h) fun d s1 ⟨H1,I1,q1⟩=>?_)
 cases d with
 | true=>exact ha pins s1 σ H1 Q I1 q1
 | false=>exact hb pins s1 σ H1 Q I1 q1
end
def SqL (K:W.Frag) (H:Hp) (a:Addr) (xs:List V):Prop :=
 Rd H a (.lst xs) ∨
  ∃ (o:Obj) (its:Array Value) (n:Nat),K.lookup a=some o∧o.cls=.type "list"∧o.dict=none∧o.data=.seq its n∧its.size≤sizeLine∧Vals xs its.toList
def SqT (K:W.Frag) (H:Hp) (a:Addr) (xs:List V):Prop :=
 Rd H a (.tup xs) ∨
  ∃ (o:Obj) (its:Array Value) (n:Nat),K.lookup a=some o∧o.cls=.type "tuple"∧o.data=.seq its n∧its.size≤sizeLine∧Vals xs its.toList
noncomputable def absV:Value→Option V
 | .none=>some .non
 | .bool b=>some (.bl b)
 | .int i _=>some (.int i)
 | .str x _=>some (.str x)
 | .bytes b _=>some (.byt b)
 | .float b _=>some (.flt b)
 | .ref a=>some (.ref a)
 | .type n=>some (.ty n)
 | _=>none
theorem RelV.abs {x:V}{u:Value} (r:RelV x u):absV u=some x:=by
 cases x with
 | non=>cases r; rfl
 | bl _=>cases r; rfl
 | int _=>obtain ⟨t,rfl⟩:=r; rfl
 | str _=>obtain ⟨t,rfl⟩:=r; rfl
 | byt _=>obtain ⟨t,rfl⟩:=r; rfl
 | flt _=>obtain ⟨t,rfl⟩:=r; rfl
 | ref _=>cases r; rfl
 | ty _=>cases r; rfl
theorem RelV.inj {x y:V}{u:Value} (r:RelV x u) (q:RelV y u):x=y:=Option.some.inj (r.abs.symm.trans q.abs)
theorem Vals.inj:∀ {xs ys:List V}{us:List Value},Vals xs us→Vals ys us→xs=ys
 | _,_,_,.nil,.nil=>rfl
 | _,_,_,.cons r t,.cons r' t'=>by rw [r.inj r',Vals.inj t t']
section
variable {X:Cx}{pins:List (Addr × Obj)}{σ:St}{H:Hp}{s:Shared}{a:Addr}{xs ys:List V}
theorem SqL.of {K:W.Frag} (h:H a=some (.lst xs)):SqL K H a xs:=.inl (.inl h)
theorem SqT.of {K:W.Frag} (h:H a=some (.tup xs)):SqT K H a xs:=.inl (.inl h)
theorem Inv.list (I:Inv X pins σ H s) (h:SqL X.K H a xs):∃ its:List Value,Vals xs its∧PlainL s.heap a its.toArray∧xs.length≤sizeLine:=by
 rcases h with h | ⟨o,its,n,hk,hc,hd,hs,hz,r⟩
 ·obtain ⟨z,its,n,r,e⟩:=h.ok I.hok
  exact ⟨its,r,⟨_,n,e,rfl,rfl,rfl⟩,z⟩
 ·refine ⟨its.toList,r,⟨o,n,I.kIn a o hk,hc,hd,by simpa using hs⟩,?_⟩
  have e:=r.length
  simp only [Array.length_toList] at e
  omega
theorem Inv.tuple (I:Inv X pins σ H s) (h:SqT X.K H a xs):∃ its:List Value,Vals xs its∧IsTup s.heap a its.toArray∧xs.length≤sizeLine:=by
 rcases h with h | ⟨o,its,n,hk,hc,hs,hz,r⟩
 ·obtain ⟨z,its,r,p⟩:=h.ok I.hok
  exact ⟨its,r,p,z⟩
 ·refine ⟨its.toList,r,⟨o,I.kIn a o hk,hc,n,by simpa using hs⟩,?_⟩
  have e:=r.length
  simp only [Array.length_toList] at e
  omega
theorem Inv.list_inj (I:Inv X pins σ H s) (h:SqL X.K H a xs) (h':SqL X.K H a ys):xs=ys:=by
 obtain ⟨its,r,⟨o,n,e,_,_,d⟩,_⟩:=I.list h
 obtain ⟨its',r',⟨o',n',e',_,_,d'⟩,_⟩:=I.list h'
 rw [e] at e'; cases e'
 rw [d] at d'
 injection d' with d1 _
 have:its=its':=by simpa using congrArg Array.toList d1
 subst this
 exact r.inj r'
theorem Inv.tuple_inj (I:Inv X pins σ H s) (h:SqT X.K H a xs) (h':SqT X.K H a ys):xs=ys:=by
 obtain ⟨its,r,⟨o,e,_,n,d⟩,_⟩:=I.tuple h
 obtain ⟨its',r',⟨o',e',_,n',d'⟩,_⟩:=I.tuple h'
 rw [e] at e'; cases e'
 rw [d] at d'
 injection d' with d1 _
 have:its=its':=by simpa using congrArg Array.toList d1
 subst this
 exact r.inj r'
end
noncomputable abbrev Cx.wish (X:Cx) (E:Value→Shared→Prop):Cx:={ X with xe:=E }
noncomputable abbrev Cx.nox (X:Cx):Cx:=X.wish fun _ _=>False
theorem Cx.Ok.wish {X:Cx} (ok:X.Ok) (E:Value→Shared→Prop):(X.wish E).Ok :=
 ⟨ok.mod,ok.kind,ok.glob,ok.blt,ok.above,ok.inj,ok.has,ok.cab,ok.hd,ok.frames,ok.stk,ok.exf,ok.bs,ok.bsz,ok.noex,ok.exfs,ok.funs,ok.frf⟩
theorem Cx.Ok.unwish {X:Cx}{E:Value→Shared→Prop} (ok:(X.wish E).Ok):X.Ok :=
 ⟨ok.mod,ok.kind,ok.glob,ok.blt,ok.above,ok.inj,ok.has,ok.cab,ok.hd,ok.frames,ok.stk,ok.exf,ok.bs,ok.bsz,ok.noex,ok.exfs,ok.funs,ok.frf⟩
section
variable {X:Cx}{pins:List (Addr × Obj)}{σ:St}{H:Hp}{s:Shared}{E:Value→Shared→Prop}
theorem Inv.wish (I:Inv X pins σ H s) (E:Value→Shared→Prop):Inv (X.wish E) pins σ H s:=⟨I.ok.wish E,I.os,I.bare,I.base,I.loc,I.cell,I.free,I.freeC,I.pin,I.hok,I.len⟩
theorem Inv.unwish (I:Inv (X.wish E) pins σ H s):Inv X pins σ H s:=⟨I.ok.unwish,I.os,I.bare,I.base,I.loc,I.cell,I.free,I.freeC,I.pin,I.hok,I.len⟩
end
section
variable {X:Cx}{st:Stmt}{rest:List Stmt}{t u:TS}{e:Expr}{te:TE}{pos:Pos}
noncomputable def tNext:TS:=fun D σ H=>D.nx σ H
noncomputable def tSeq (t u:TS):TS:=fun D σ H=>t { D with nx:=u D } σ H
theorem pss_nil:PSs X [] tNext:=fun _ _ σ H _ I h=>wpAny_execs_nil ⟨σ,H,I,h⟩
theorem pss_cons (h1:PS X st t) (h2:PSs X rest u):PSs X (st::rest) (tSeq t u):=by
 intro pins s σ H D I h
 refine wpAny_execs_cons (thn (h1 pins s σ H { D with nx:=u D } I h) fun f s1 q=>?_)
 cases f with
 | next =>
  obtain ⟨σ',H',I',q⟩:=q
  exact h2 pins s1 σ' H' D I' q
 | ret v=>exact q
 | brk=>exact q
 | cont=>exact q
noncomputable def tBreak:TS:=fun D σ H=>D.bk σ H
noncomputable def tCont:TS:=fun D σ H=>D.ct σ H
theorem ps_pass:PS X (.Pass pos) tNext:=fun _ _ σ H _ I h=>wpAny_Pass ⟨σ,H,I,h⟩
theorem ps_break:PS X (.Break pos) tBreak:=fun _ _ σ H _ I h=>wpAny_Break ⟨σ,H,I,h⟩
theorem ps_continue:PS X (.Continue pos) tCont:=fun _ _ σ H _ I h=>wpAny_Continue ⟨σ,H,I,h⟩
theorem Inv.quiet {pins:List (Addr × Obj)}{σ:St}{H:Hp}{s:Shared} (I:Inv X pins σ H s):interactive X.env=false:=by simp [interactive,I.ok.kind]
noncomputable def tDrop (te:TE):TS:=fun D σ H=>te σ H fun _ H1=>D.nx σ H1
theorem ps_expr (he:PE X e te) (hs:swapsWith e none pos.line X.env=pure false:=by rfl):PS X (.Expr e pos) (tDrop te):=by
 intro pins s σ H D I h
 exact wpAny_Expr_any (thn (he pins s σ H _ I h) fun v s1 ⟨x,H1,I1,r1,q1⟩=>⟨σ,H1,I1,q1⟩) I.quiet hs
noncomputable def tRet (te:TE):TS:=fun D σ H=>te σ H D.rt
theorem ps_ret (he:PE X e te):PS X (.Return (some e) pos) (tRet te):=by
 intro pins s σ H D I h
 exact wpAny_Return_some (thn (he pins s σ H _ I h) fun v s1 ⟨x,H1,I1,r1,q1⟩=>⟨x,σ,H1,I1,r1,q1⟩)
noncomputable def tRetN:TS:=fun D _ H=>D.rt .non H
theorem ps_retN:PS X (.Return none pos) tRetN:=fun _ _ σ H _ I h=>wpAny_Return_none ⟨.non,σ,H,I,rfl,h⟩
noncomputable def tIfS (c:TT) (t u:TS):TS:=fun D σ H=>c σ H fun b H1=>if b=true then t D σ H1 else u D σ H1
theorem ps_if {c:Expr}{a b:List Stmt}{tc:TT} (hc:PT X c tc) (ha:PSs X a t) (hb:PSs X b u):PS X (.If c a b pos) (tIfS tc t u):=by
 intro pins s σ H D I h
 refine wpAny_If (thn (hc pins s σ H _ I h) fun d s1 ⟨H1,I1,q1⟩=>?_)
 cases d with
 | true=>exact ha pins s1 σ H1 D I1 q1
 | false=>exact hb pins s1 σ H1 D I1 q1
noncomputable def tNever:TS:=fun _ _ _=>False
theorem ps_never:PS X st tNever:=fun _ _ _ _ _ _ h=>h.elim
end
noncomputable abbrev TG:=V→St→Hp→(St→Hp→Prop)→Prop
noncomputable abbrev TGs:=List V→St→Hp→(St→Hp→Prop)→Prop
def PG (X:Cx) (target:Expr) (t:TG):Prop :=
 ∀ (pins:List (Addr × Obj)) (s:Shared) (σ:St) (H:Hp) (v:V) (u:Value) (Q:St→Hp→Prop),Inv X pins σ H s→RelV v u→t v σ H Q →
  wpAny (model X.prog X.w) X.A (assign target X.env u) (fun _ s'=>∃ σ' H',Inv X pins σ' H' s'∧Q σ' H') X.xe s
def PGs (X:Cx) (ts:List Expr) (t:TGs):Prop :=
 ∀ (pins:List (Addr × Obj)) (s:Shared) (σ:St) (H:Hp) (vs:List V) (us:List Value) (Q:St→Hp→Prop),Inv X pins σ H s→Vals vs us→t vs σ H Q →
  wpAny (model X.prog X.w) X.A (assignInOrder ((assignEach ts X.env).map (·.2)) us) (fun _ s'=>∃ σ' H',Inv X pins σ' H' s'∧Q σ' H') X.xe s
noncomputable abbrev TSet:=V→V→V→Hp→(Hp→Prop)→Prop
def PSet (X:Cx) (t:TSet):Prop :=
 ∀ (pins:List (Addr × Obj)) (s:Shared) (σ:St) (H:Hp) (o i v:V) (ov iv u:Value) (Q:Hp→Prop),Inv X pins σ H s→RelV o ov→RelV i iv→RelV v u→t o i v H Q →
  wpAny (model X.prog X.w) X.A (setItem ov iv u) (fun _ s'=>∃ H',Inv X pins σ H' s'∧Q H') X.xe s
section
variable {X:Cx}{pos:Pos}
noncomputable def gName (i:Nat):TG:=fun v σ H Q=>Q (σ.set i (some v)) H
theorem pg_name {i:Nat}{x:Str} (hN:X.N.Nodup) (hi:X.N[i]?=some x) (hx:Loc X.env.scope x) (hf:X.fn x=true∨X.env.scope.names.lookup x=some .local:=by first | exact .inl rfl | exact .inr rfl | assumption):PG X (.Name x pos) (gName i):=by
 intro pins s σ H v u Q I r h
 exact wpAny_assign_Name (store_ok I hN hi hx r (fun s' I'=>⟨_,H,I',h⟩) hf)
noncomputable def gNil:TGs:=fun vs σ H Q=>vs=[]∧Q σ H
noncomputable def gCons (t:TG) (u:TGs):TGs:=fun vs σ H Q=>∃ v r,vs=v::r∧t v σ H fun σ' H'=>u r σ' H' Q
theorem pgs_nil:PGs X [] gNil:=by
 intro pins s σ H vs us Q I r h
 obtain ⟨e,h⟩:=h
 subst e
 cases r
 exact assignInOrder_nil ⟨σ,H,I,h⟩
theorem pgs_cons {e:Expr}{es:List Expr}{t:TG}{u:TGs} (h1:PG X e t) (h2:PGs X es u)
  (hs:(assignEach (e::es) X.env).map (·.2)=assign e X.env::(assignEach es X.env).map (·.2):=by rfl):PGs X (e::es) (gCons t u):=by
 intro pins s σ H vs us Q I r h
 obtain ⟨v,vr,e1,h⟩:=h
 subst e1
 cases r with
 | cons r rr =>
  rw [hs]
  refine assignInOrder_cons (thn (h1 pins s σ H _ _ _ I r h) fun _ s1 ⟨σ1,H1,I1,q1⟩=>?_)
  exact h2 pins s1 σ1 H1 _ _ Q I1 rr q1
noncomputable def gTup (K:W.Frag) (n:Nat) (t:TGs):TG:=fun v σ H Q=>∃ a xs,v=.ref a∧SqT K H a xs∧xs.length=n∧t xs σ H Q
theorem pg_tup {es:List Expr}{k:Nat}{t:TGs}{n:Nat} (hc:X.calm=true) (h:PGs X es t)
  (hn:(assignEach es X.env).length=n:=by rfl) (hst:(assignEach es X.env).findIdx? (·.1)=none:=by rfl):PG X (.Tuple es k pos) (gTup X.K n t):=by
 intro pins s σ H v u Q I r hw
 obtain ⟨a,xs,e1,hq,hl,hw⟩:=hw
 subst e1
 cases r
 obtain ⟨its,rv,ht,hz⟩:=I.tuple hq
 refine assign_Tuple_tuple (I.ok.hd hc) ht (by simp [hn,← hl,rv.length]) hst fun h' hx=>?_
 have I1:Inv X pins σ H { s with heap:=h' }:=I.kept (t':=s.toks) fun b o e=>hx b o (Nat.ne_of_lt (Heap.lt_size e)) e
 exact h pins _ σ H xs _ Q I1 (by simpa using rv) hw
noncomputable def gSub (to ti:TE) (t:TSet):TG:=fun v σ H Q=>to σ H fun o H1=>ti σ H1 fun i H2=>t o i v H2 fun H3=>Q σ H3
theorem pg_sub {o i:Expr}{to ti:TE}{t:TSet} (ho:PE X o to) (hi:PE X i ti) (hs:PSet X t)
  (ha:∀ v,assign (.Subscript o i pos) X.env v=(do
   let ov ← holding [v] (eval o X.env)
   let iv ← holding [v,ov] (eval i X.env)
   standAt pos
   holding [v,ov,iv] (setItem ov iv v)
   release [v,ov,iv] []):=by intro _; rfl):PG X (.Subscript o i pos) (gSub to ti t):=by
 intro pins s σ H v u Q I r h
 rw [ha]
 refine wpAny_bind (wpAny_holding (thn (ho pins s σ H _ I h) fun ov s1 ⟨x,H1,I1,r1,q1⟩=>?_))
 refine wpAny_bind (wpAny_holding (thn (hi pins s1 σ H1 _ I1 q1) fun iv s2 ⟨y,H2,I2,r2,q2⟩=>?_))
 refine wpAny_bind (wpAny_standAt (wpAny_bind (wpAny_holding (thn (hs pins s2 σ H2 x y v ov iv u _ I2 r1 r2 r q2) fun _ s3 ⟨H3,I3,q3⟩=>?_))))
 exact wpAny_release ⟨σ,H3,I3,q3⟩
noncomputable def tAsg (te:TE) (g:TG):TS:=fun D σ H=>te σ H fun x H1=>g x σ H1 D.nx
theorem ps_asg {tg e:Expr}{te:TE}{g:TG} (he:PE X e te) (hg:PG X tg g) (hs:swapsWithSole [tg] e pos.line X.env=pure false:=by rfl) (hw:swappedStores [tg] e X.env=pure none:=by rfl)
  (h1:(assignEach [tg] X.env).map (·.2)=[assign tg X.env]:=by rfl):PS X (.Assign [tg] e pos) (tAsg te g):=by
 intro pins s σ H D I h
 refine wpAny_Assign_stores (thn (he pins s σ H _ I h) fun v s1 ⟨x,H1,I1,r1,q1⟩=>?_) hs hw
 rw [h1]
 exact thn (hg pins s1 σ H1 x v _ I1 r1 q1) fun _ s2 q=>q
end
section
variable {X:Cx}{pos:Pos}
noncomputable def tWhile (c:TT) (tb:TS):TS:=fun D σ H=>∃ W:Nat→St→Hp→Prop,(∃ m,W m σ H)∧∀ m σ H,W m σ H →
 c σ H fun b H1=>if b=true then ∃ N:St→Hp→Prop,(∀ σ' H',N σ' H'→∃ m',m'<m∧W m' σ' H')∧tb { D with nx:=N,ct:=N,bk:=D.nx } σ H1 else D.nx σ H1
theorem ps_while {c:Expr}{body:List Stmt}{tc:TT}{tb:TS} (hp:PassesOwn (model X.prog X.w) X.A X.env X.xe) (hc:PT X c tc) (hb:PSs X body tb):PS X (.While c body [] pos) (tWhile tc tb):=by
 intro pins s σ H D I h
 obtain ⟨W,⟨m0,w0⟩,turn⟩:=h
 refine wpAny_While (codeAny_whileLoop (fun n s'=>∃ σ' H',Inv X pins σ' H' s'∧W n σ' H') ?_ m0 ⟨σ,H,I,w0⟩)
 rintro n s1 ⟨σ1,H1,I1,w1⟩
 refine wpAny_passesOwn hp (thn (hc pins s1 σ1 H1 _ I1 (turn n σ1 H1 w1)) fun b s2 ⟨H2,I2,q2⟩=>?_)
 cases b with
 | true =>
  obtain ⟨N,hN,q2⟩:=q2
  rw [if_pos rfl]
  refine wpAny_passesOwn hp (thn (hb pins s2 σ1 H2 _ I2 q2) fun f s3 q3=>?_)
  cases f with
  | next =>
   obtain ⟨σ3,H3,I3,n3⟩:=q3
   obtain ⟨m',hm,w3⟩:=hN σ3 H3 n3
   exact ⟨m',hm,σ3,H3,I3,w3⟩
  | cont =>
   obtain ⟨σ3,H3,I3,n3⟩:=q3
   obtain ⟨m',hm,w3⟩:=hN σ3 H3 n3
   exact ⟨m',hm,σ3,H3,I3,w3⟩
  | brk=>exact q3
  | ret v=>exact q3
 | false =>
  rw [if_neg Bool.false_ne_true]
  exact wpAny_execs_nil ⟨σ1,H2,I2,q2⟩
end
structure It where
 go:Nat→Hp→Prop
 yld:Nat→Hp→V→Hp→Prop
 stop:Nat→Hp→Prop
def FpOk (X:Cx) (pins:List (Addr × Obj)) (H:Hp) (b:Addr):Prop :=
 H b=none∧b≠X.env.locals∧b∉X.fs∧(b∈X.ex∨X.s₀.heap.objs.size≤b)∧(∀ x c,X.env.cells.lookup x=some c→c≠b)∧∀ p∈X.pn++pins,p.1≠b
theorem Inv.fpOk {X:Cx}{pins:List (Addr × Obj)}{σ:St}{H H':Hp}{s:Shared}{b:Addr} (I:Inv X pins σ H s) (hb:s.heap.objs.size≤b) (hn:H' b=none):FpOk X pins H' b:=by
 refine ⟨hn,Nat.ne_of_gt (Nat.lt_of_lt_of_le I.lt hb),I.nofs hb,.inr (Nat.le_trans I.sz hb),fun x c e z=>?_,fun p hp z=>?_⟩
 ·obtain ⟨v,q⟩:=I.cell x c e
  exact absurd (Nat.lt_of_lt_of_le q.lt (by rw [z]; exact hb)) (Nat.lt_irrefl _)
 ·exact absurd (Nat.lt_of_lt_of_le (Heap.lt_size (I.pin p hp).1) (by rw [z]; exact hb)) (Nat.lt_irrefl _)
structure Turn (P:Program) (w:World) (K:W.Frag) (tg:Expr) (J:It) (fp:List Addr) (it:Addr) (tn:Nat→Heap→Prop):Prop where
 mem:it∈fp
 obj:∀ i h,tn i h→∀ b∈fp,∃ o,h.get? b=some o∧∀ v,o.data≠.cell v
 keep:∀ i h h',tn i h→(∀ b∈fp,∀ o,h.get? b=some o→h'.get? b=some o)→tn i h'
 item:∀ (X:Cx),X.prog=P→X.w=w→X.K=K→X.calm=true→∀ (i:Nat) (pins:List (Addr × Obj)) (s:Shared) (σ:St) (H:Hp) (E:Value→Shared→Prop),Inv X pins σ H s→(∀ b∈fp,FpOk X pins H b)→tn i s.heap→J.go i H →
  wpAny (model P w) X.A (pyNext (.ref it)) (fun r s1=>∃ u,r=some u ∧
   wpAny (model P w) X.A (letOwnedTupleGo tg (.ref it) u) (fun _ s2=>∃ x H',Inv X pins σ H' s2∧RelV x u∧J.yld i H x H'∧tn (i+1) s2.heap∧∀ b∈fp,H' b=none) E s1) E s
 done:∀ (X:Cx),X.prog=P→X.w=w→X.K=K→X.calm=true→∀ (i:Nat) (pins:List (Addr × Obj)) (s:Shared) (σ:St) (H:Hp) (E:Value→Shared→Prop),Inv X pins σ H s→(∀ b∈fp,FpOk X pins H b)→tn i s.heap→J.stop i H →
  wpAny (model P w) X.A (pyNext (.ref it)) (fun r s1=>r=none∧Inv X pins σ H s1) E s
 self:∀ (A:Around) (i:Nat) (s:Shared) (Q:Value→Shared→Prop) (E:Value→Shared→Prop),tn i s.heap→Q (.ref it) s→wpAny (model P w) A (pyIter (.ref it)) Q E s
noncomputable abbrev TI:=St→Hp→(It→Hp→Prop)→Prop
inductive PIE (X:Cx) (pins:List (Addr × Obj)) (σ:St) (tg:Expr) (R:It→Hp→Prop) (itv:Value) (s2:Shared):Prop
 | mk (it:Addr) (fp:List Addr) (tn:Nat→Heap→Prop) (J:It) (H':Hp) (e:itv=.ref it) (I:Inv X pins σ H' s2) (T:Turn X.prog X.w X.K tg J fp it tn) (t0:tn 0 s2.heap) (f:∀ b∈fp,FpOk X pins H' b) (r:R J H')
def PI (X:Cx) (tg iter:Expr) (wi:TI):Prop :=
 ∀ (pins:List (Addr × Obj)) (s:Shared) (σ:St) (H:Hp) (R:It→Hp→Prop),Inv X pins σ H s→wi σ H R →
  wpAny (model X.prog X.w) X.A (eval iter X.env) (fun v s1=>wpAny (model X.prog X.w) X.A (pyIter v) (PIE X pins σ tg R) X.xe s1) X.xe s
theorem go_of {M:Model}{A:Around}{E:Value→Shared→Prop}{s:Shared}{tg:Expr}{it:Addr}{u:Value}{o:Obj}{n:String}{vs:Array Value}{Q:Unit→Shared→Prop} (ho:s.heap.get? it=some o) (hc:o.cls=.type n) (hd:o.data=.fields vs)
    (hn:["enumerate","zip","dict_itemiterator","dict_reverseitemiterator","odict_iterator","itertools.zip_longest","itertools.pairwise"].contains n=false) (hQ:Q () s):wpAny M A (letOwnedTupleGo tg (.ref it) u) Q E s:=by
  unfold letOwnedTupleGo
  cases tg <;> first
    | exact wpAny_pure hQ
    | (cases u <;> first
        | exact wpAny_pure hQ
        | (refine wpAny_bind (wpAny_load ho ?_)
           rw [hc,hd]
           show wpAny M A (if (["enumerate","zip","dict_itemiterator","dict_reverseitemiterator","odict_iterator","itertools.zip_longest","itertools.pairwise"].contains n&&vs[0]? == some (rawInt _))=true then _ else _) Q E s
           rw [if_neg (by intro h; rw [hn,Bool.false_and] at h; cases h)]
           exact wpAny_pure hQ))
noncomputable def Itl (K:W.Frag) (a:Addr):It :=
 ⟨fun i H=>∃ xs x,SqL K H a xs∧xs[i]?=some x,fun i H x H'=>H'=H∧∀ xs,SqL K H a xs→xs[i]?=some x,fun i H=>∃ xs,SqL K H a xs∧xs.length≤i⟩
noncomputable def Itt (K:W.Frag) (a:Addr):It :=
 ⟨fun i H=>∃ xs x,SqT K H a xs∧xs[i]?=some x,fun i H x H'=>H'=H∧∀ xs,SqT K H a xs→xs[i]?=some x,fun i H=>∃ xs,SqT K H a xs∧xs.length≤i⟩
noncomputable def Itr (lo:Int) (n:Nat):It:=⟨fun i _=>i<n,fun i H x H'=>H'=H∧x=.int (lo+i),fun i _=>n≤i⟩
theorem turn_list {P:Program}{w:World}{K:W.Frag}{tg:Expr} (a it:Addr):Turn P w K tg (Itl K a) [it] it (fun i h=>h.IsListIter it a i) where
 mem:=by simp
 obj:=fun i h st b hb=>by
  have e:b=it:=by simpa using hb
  subst e
  obtain ⟨o,e,c,d⟩:=st
  exact ⟨o,e,fun v z=>by rw [d] at z; cases z⟩
 keep:=fun i h h' st k=>st.at fun o e=>k it (by simp) o e
 item:=by
  intro X hP hw hK hc i pins s σ H E I hf st hg
  subst hP hw hK
  obtain ⟨xs,x,hq,hx⟩:=hg
  obtain ⟨its,rv,p,hz⟩:=I.list hq
  obtain ⟨u,hu,ru⟩:=rv.get hx
  obtain ⟨f0,f1,f2,f3,f4,f5⟩:=hf it (by simp)
  refine wpAny_pyNext_list_item st p.isList (x:=u) (by simpa using hu) fun h' st' sb=>?_
  have I1:Inv X pins σ H { s with heap:=h' }:=I.turned (t':=s.toks) (fun b o hb e=>(sb.2 b hb).trans e) f0 f1 f3 f4 f5
  obtain ⟨o,e,c,d⟩:=id st'
  exact ⟨u,rfl,go_of (s:={ s with heap:=h' }) e c d (by decide) ⟨x,H,I1,ru,⟨rfl,fun ys hy=>by rw [I.list_inj hy hq]; exact hx⟩,st',fun b hb=>(hf b hb).1⟩⟩
 done:=by
  intro X hP hw hK hc i pins s σ H E I hf st hg
  subst hP hw hK
  obtain ⟨xs,hq,hx⟩:=hg
  obtain ⟨its,rv,p,hz⟩:=I.list hq
  obtain ⟨f0,f1,f2,f3,f4,f5⟩:=hf it (by simp)
  have hl:=rv.length
  exact wpAny_pyNext_list_end (I.ok.hd hc) st p.isList (by simp; omega) fun h' eb=>⟨rfl,I.turned (t':=s.toks) (fun b o hb e=>eb b o hb e) f0 f1 f3 f4 f5⟩
 self:=fun _ _ _ _ _ st h=>wpAny_pyIter_listiter st h
theorem turn_tuple {P:Program}{w:World}{K:W.Frag}{tg:Expr} (a it:Addr):Turn P w K tg (Itt K a) [it] it (fun i h=>h.IsTupleIter it a i) where
 mem:=by simp
 obj:=fun i h st b hb=>by
  have e:b=it:=by simpa using hb
  subst e
  obtain ⟨o,e,c,d⟩:=st
  exact ⟨o,e,fun v z=>by rw [d] at z; cases z⟩
 keep:=fun i h h' st k=>st.at fun o e=>k it (by simp) o e
 item:=by
  intro X hP hw hK hc i pins s σ H E I hf st hg
  subst hP hw hK
  obtain ⟨xs,x,hq,hx⟩:=hg
  obtain ⟨its,rv,p,hz⟩:=I.tuple hq
  obtain ⟨u,hu,ru⟩:=rv.get hx
  obtain ⟨f0,f1,f2,f3,f4,f5⟩:=hf it (by simp)
  refine wpAny_pyNext_tuple_item st (show s.heap.IsTuple a its.toArray from p) (x:=u) (by simpa using hu) fun h' st' sb=>?_
  have I1:Inv X pins σ H { s with heap:=h' }:=I.turned (t':=s.toks) (fun b o hb e=>(sb.2 b hb).trans e) f0 f1 f3 f4 f5
  obtain ⟨o,e,c,d⟩:=id st'
  exact ⟨u,rfl,go_of (s:={ s with heap:=h' }) e c d (by decide) ⟨x,H,I1,ru,⟨rfl,fun ys hy=>by rw [I.tuple_inj hy hq]; exact hx⟩,st',fun b hb=>(hf b hb).1⟩⟩
 done:=by
  intro X hP hw hK hc i pins s σ H E I hf st hg
  subst hP hw hK
  obtain ⟨xs,hq,hx⟩:=hg
  obtain ⟨its,rv,p,hz⟩:=I.tuple hq
  obtain ⟨f0,f1,f2,f3,f4,f5⟩:=hf it (by simp)
  have hl:=rv.length
  exact wpAny_pyNext_tuple_end (I.ok.hd hc) st (show s.heap.IsTuple a its.toArray from p) (by simp; omega) fun h' eb=>⟨rfl,I.turned (t':=s.toks) (fun b o hb e=>eb b o hb e) f0 f1 f3 f4 f5⟩
 self:=fun _ _ _ _ _ st h=>wpAny_pyIter_tupleiter st h
theorem turn_range {P:Program}{w:World}{K:PySem.W.Frag}{tg:Expr} (it:Addr) (lo:Int) (n:Nat):Turn P w K tg (Itr lo n) [it] it (fun i h=>IsRangeIter h it (lo+(i:Nat)*1) ((n:Int) - (i:Nat)) 1) where
 mem:=by simp
 obj:=fun i h st b hb=>by
  have e:b=it:=by simpa using hb
  subst e
  exact ⟨_,st,fun v z=>by
   have z':Data.fields _=Data.cell v:=z
   cases z'⟩
 keep:=fun i h h' st k=>k it (by simp) _ st
 item:=by
  intro X hP hw hK hc i pins s σ H E I hf st hg
  subst hP hw hK
  obtain ⟨f0,f1,f2,f3,f4,f5⟩:=hf it (by simp)
  have W:=Walks.range (prog:=X.prog) (w:=X.w) (I.ok.hd hc) it lo 1 n
  refine W.item i s _ _ hg st fun v h' tk hv st' kk=>?_
  obtain ⟨t,rfl⟩:=hv
  have I1:Inv X pins σ H { s with heap:=h',toks:=tk }:=I.turned (fun b o hb e=>kk b o (by simpa using hb) e) f0 f1 f3 f4 f5
  refine ⟨_,rfl,go_of (s:={ s with heap:=h',toks:=tk }) (n := "range_iterator") st' rfl rfl (by decide) ⟨.int (lo+i),H,I1,⟨t,?_⟩,⟨rfl,rfl⟩,st',fun b hb=>(hf b hb).1⟩⟩
  rw [Int.mul_one]
 done:=by
  intro X hP hw hK hc i pins s σ H E I hf st hg
  subst hP hw hK
  obtain ⟨f0,f1,f2,f3,f4,f5⟩:=hf it (by simp)
  exact wpAny_pyNext_range_end (I.ok.hd hc) st (by have:n≤i:=hg; omega) fun h' eb=>⟨rfl,I.turned (t':=s.toks) (fun b o hb e=>eb b o hb e) f0 f1 f3 f4 f5⟩
 self:=fun _ _ _ _ _ st h=>wpAny_pyIter_rangeiter st h
section
variable {X:Cx}{tg:Expr}
theorem range_it {pins:List (Addr × Obj)}{σ:St}{H:Hp}{s:Shared}{R:It→Hp→Prop}{E:Value→Shared→Prop}{lo hi:Int}{t u v:Tok}{tk:Nat} (I:Inv X pins σ H s) (h1:-(2 ^ 62)≤lo) (h2:lo<2 ^ 62) (h3:-(2 ^ 62)≤hi) (h4:hi<2 ^ 62)
  (q:R (Itr lo (hi - lo).toNat) H):wpAny (model X.prog X.w) X.A (pyIter (.ref s.heap.objs.size)) (PIE X pins σ tg R) E { s with heap:=s.heap.push { cls:=.type "range",data:=.fields #[.int lo t,.int hi u,.int 1 v] },toks:=tk }:=by
 refine wpAny_pyIter_range (IsRange.new ..) (small_one h1 h2 h3 h4) ?_
 have I1:Inv X pins σ H { s with heap:=s.heap.push { cls:=.type "range",data:=.fields #[.int lo t,.int hi u,.int 1 v] },toks:=tk }:=I.kept fun b o e=>Heap.get?_push_of_some _ e
 refine ⟨(s.heap.push { cls:=.type "range",data:=.fields #[.int lo t,.int hi u,.int 1 v] }).objs.size,[(s.heap.push { cls:=.type "range",data:=.fields #[.int lo t,.int hi u,.int 1 v] }).objs.size],_,_,H,rfl,
  I1.kept (t':=tk) fun b o e=>Heap.get?_push_of_some _ e,turn_range _ lo (hi - lo).toNat,?_,fun b hb=>?_,q⟩
 ·have e1:lo+((0:Nat):Int)*1=lo:=by simp
  have e2:(((hi - lo).toNat:Nat):Int) - ((0:Nat):Int)=Builtin.Range.rangeSize lo hi 1:=by rw [rangeSize_one]; split <;> omega
  show IsRangeIter _ _ (lo+((0:Nat):Int)*1) ((((hi - lo).toNat:Nat):Int) - ((0:Nat):Int)) 1
  rw [e1,e2]
  exact Heap.get?_push_size _ rfl
 ·have e:b=(s.heap.push { cls:=.type "range",data:=.fields #[.int lo t,.int hi u,.int 1 v] }).objs.size:=by simpa using hb
  subst e
  exact I1.fpOk (Nat.le_refl _) (I1.hok.fresh (Nat.le_refl _))
noncomputable def iRng1 (ta:TA):TI:=fun σ H R=>ta σ H fun vs H1=>∃ j:Int,vs=[.int j]∧-(2 ^ 62)≤j∧j<2 ^ 62∧R (Itr 0 j.toNat) H1
noncomputable def iRng2 (ta:TA):TI:=fun σ H R=>ta σ H fun vs H1=>∃ i j:Int,vs=[.int i,.int j]∧(-(2 ^ 62)≤i∧i<2 ^ 62∧-(2 ^ 62)≤j∧j<2 ^ 62)∧R (Itr i (j - i).toNat) H1
theorem pi_range1 {a:Expr}{ta:TA}{p pos:Pos} (hg:Gl X "range") (hm:X.mg "range"=none) (ha:PA X [a] ta) (hs:starEach [a] X.env=[(false,eval a X.env)]:=by rfl):PI X tg (.Call (.Name "range" p) [a] [] pos) (iRng1 ta):=by
 intro pins s σ H R I h
 refine Call_ (ld_blt I hg hm boot_range (PyProof.Rows.callWith_type1 (thn (ha pos pins s σ H _ I h) fun us s1 ⟨vs,H1,I1,r1,q1⟩=>?_) hs rfl))
 obtain ⟨j,e,q1,q2,q⟩:=q1
 subst e
 cases r1 with
 | cons r rr =>
  cases rr
  obtain ⟨t,rfl⟩:=r
  exact call_range_1 (range_it I1 (by omega) (by omega) q1 q2 (by simpa using q))
theorem pi_range2 {a b:Expr}{ta:TA}{p pos:Pos} (hg:Gl X "range") (hm:X.mg "range"=none) (ha:PA X [a,b] ta) (hs:starEach [a,b] X.env=[(false,eval a X.env),(false,eval b X.env)]:=by rfl) (hs2:starEach [b] X.env=[(false,eval b X.env)]:=by rfl) :
  PI X tg (.Call (.Name "range" p) [a,b] [] pos) (iRng2 ta):=by
 intro pins s σ H R I h
 refine Call_ (ld_blt I hg hm boot_range (PyProof.Rows.callWith_type1 (thn (ha pos pins s σ H _ I h) fun us s1 ⟨vs,H1,I1,r1,q1⟩=>?_) (by rw [hs,hs2]) (by rw [hs2]; rfl)))
 obtain ⟨i,j,e,⟨q1,q2,q3,q4⟩,q⟩:=q1
 subst e
 cases r1 with
 | cons r rr =>
  cases rr with
  | cons r' rr =>
   cases rr
   obtain ⟨t,rfl⟩:=r
   obtain ⟨t',rfl⟩:=r'
   exact call_range_2 (range_it I1 q1 q2 q3 q4 q)
noncomputable def tFor (wi:TI) (g:TG) (tb:TS):TS:=fun D σ H=>wi σ H fun J H1=>∃ W:Nat→Nat→St→Hp→Prop,(∃ m,W 0 m σ H1)∧∀ i m σ H,W i m σ H →
 (J.stop i H∧D.nx σ H)∨(J.go i H∧∃ N:St→Hp→Prop,(∀ σ' H',N σ' H'→∃ m',m'<m∧W (i+1) m' σ' H')∧∀ x H',J.yld i H x H'→g x σ H' fun σ2 H2=>tb { D with nx:=N,ct:=N,bk:=D.nx } σ2 H2)
noncomputable def pinsAt (fp:List Addr) (h:Heap):List (Addr × Obj):=fp.filterMap fun b=>(h.get? b).map fun o=>(b,o)
theorem mem_pinsAt {fp:List Addr}{h:Heap}{b:Addr}{o:Obj} (hb:b∈fp) (e:h.get? b=some o):(b,o)∈pinsAt fp h:=List.mem_filterMap.mpr ⟨b,hb,by rw [e]; rfl⟩
theorem of_pinsAt {fp:List Addr}{h:Heap}{p:Addr × Obj} (hp:p∈pinsAt fp h):p.1∈fp∧h.get? p.1=some p.2:=by
 obtain ⟨b,hb,e⟩:=List.mem_filterMap.mp hp
 cases q:h.get? b with
 | none=>rw [q] at e; cases e
 | some o =>
  rw [q] at e
  have e':(b,o)=p:=Option.some.inj e
  subst e'
  exact ⟨hb,q⟩
theorem Inv.pinned {pins:List (Addr × Obj)}{σ:St}{H:Hp}{s:Shared}{fp:List Addr} (I:Inv X pins σ H s) (hf:∀ b∈fp,FpOk X pins H b) (ho:∀ b∈fp,∃ o,s.heap.get? b=some o∧∀ v,o.data≠.cell v):Inv X (pins++pinsAt fp s.heap) σ H s :=
 I.pins_of fun p hp=>(List.mem_append.mp hp).elim (fun z=>I.pin p (List.mem_append_right _ z)) fun z=>by
  obtain ⟨hb,e⟩:=of_pinsAt z
  obtain ⟨f0,f1,f2,_⟩:=hf p.1 hb
  obtain ⟨o,e',d⟩:=ho p.1 hb
  rw [e] at e'; cases e'
  exact ⟨e,f0,f1,f2,d⟩
theorem Inv.unpinned {pins pl:List (Addr × Obj)}{σ:St}{H:Hp}{s:Shared} (I:Inv X (pins++pl) σ H s):Inv X pins σ H s:=I.pins_of fun p hp=>I.pin p (List.mem_append_right _ (List.mem_append_left _ hp))
theorem ps_for {iter:Expr}{body:List Stmt}{wi:TI}{g:TG}{tb:TS}{pos:Pos} (hp:PassesOwn (model X.prog X.w) X.A X.env X.xe) (hc:X.calm=true) (hi:PI X tg iter wi) (hg:PG X tg g) (hb:PSs X body tb)
  (hs:∀ x,foldedSetIterable iter X.env x=pure x:=by intro _; rfl):PS X (.For tg iter body [] pos) (tFor wi g tb):=by
 intro pins s σ H D I h
 refine wpAny_For (thn (hi pins s σ H _ I h) fun v s1 h1=>thn h1 fun itv s2 h2=>?_) hs
 obtain ⟨it,fp,tn,J,H2,e,I2,T,st2,f2,W,⟨m0,w0⟩,turn⟩:=h2
 subst e
 have stat:∀ {H':Hp},(∀ b∈fp,H' b=none)→∀ b∈fp,FpOk X pins H' b:=fun hn b hb=>⟨hn b hb,(f2 b hb).2⟩
 refine codeAny_forLoop_any (fun n s'=>∃ i σ' H',Inv X pins σ' H' s'∧tn i s'.heap∧(∀ b∈fp,H' b=none)∧W i n σ' H') ?_ m0 ⟨0,σ,H2,I2,st2,fun b hb=>(f2 b hb).1,w0⟩
 rintro n s3 ⟨i,σ3,H3,I3,st3,fr3,w3⟩
 rcases turn i n σ3 H3 w3 with ⟨stop,qn⟩ | ⟨go,N,hN,step⟩
 ·refine wpAny_passesOwn hp (thn (T.done X rfl rfl rfl hc i pins s3 σ3 H3 X.xe I3 (stat fr3) st3 stop) fun r s4 ⟨hr,I4⟩=>?_)
  subst hr
  exact wpAny_execs_nil ⟨σ3,H3,I4,qn⟩
 ·refine wpAny_passesOwn hp (thn (T.item X rfl rfl rfl hc i pins s3 σ3 H3 X.xe I3 (stat fr3) st3 go) fun r s4 ⟨u,hr,h4⟩=>?_)
  subst hr
  refine wpAny_passesOwn hp (thn h4 fun _ s5 ⟨x,H5,I5,r5,y5,st5,fr5⟩=>?_)
  have I5':=I5.pinned (stat fr5) (T.obj _ _ st5)
  refine wpAny_passesOwn hp (thn (hg _ s5 σ3 H5 x u _ I5' r5 (step x H5 y5)) fun _ s6 ⟨σ6,H6,I6,q6⟩=>?_)
  refine wpAny_passesOwn hp (thn (hb _ s6 σ6 H6 _ I6 q6) fun f s7 q7=>?_)
  have again:∀ {σ7:St}{H7:Hp},Inv X (pins++pinsAt fp s5.heap) σ7 H7 s7→N σ7 H7→∃ m,m<n∧∃ i σ' H',Inv X pins σ' H' s7∧tn i s7.heap∧(∀ b∈fp,H' b=none)∧W i m σ' H':=fun {σ7 H7} I7 n7=>by
   obtain ⟨m',hm,w7⟩:=hN σ7 H7 n7
   refine ⟨m',hm,i+1,σ7,H7,I7.unpinned,T.keep _ _ _ st5 fun b hb o e=>(I7.pin (b,o) (List.mem_append_right _ (List.mem_append_right _ (mem_pinsAt hb e)))).1,fun b hb=>?_,w7⟩
   obtain ⟨o,e,d⟩:=T.obj _ _ st5 b hb
   exact (I7.pin (b,o) (List.mem_append_right _ (List.mem_append_right _ (mem_pinsAt hb e)))).2.1
  cases f with
  | next=>obtain ⟨σ7,H7,I7,n7⟩:=q7; exact again I7 n7
  | cont=>obtain ⟨σ7,H7,I7,n7⟩:=q7; exact again I7 n7
  | brk=>obtain ⟨σ7,H7,I7,q7⟩:=q7; exact ⟨σ7,H7,I7.unpinned,q7⟩
  | ret v=>obtain ⟨x7,σ7,H7,I7,r7,q7⟩:=q7; exact ⟨x7,σ7,H7,I7.unpinned,r7,q7⟩
end
noncomputable abbrev R2:=V→V→Hp→VK→Prop
def OpR (X:Cx) (f:Value→Value→Sem Value) (r:R2):Prop :=
 ∀ (pins:List (Addr × Obj)) (s:Shared) (σ:St) (H:Hp) (x y:V) (v u:Value) (Q:VK),Inv X pins σ H s→RelV x v→RelV y u→r x y H Q →
  wpAny (model X.prog X.w) X.A (f v u) (EP X pins σ Q) X.xe s
def UnR (X:Cx) (f:Value→Sem Value) (r:V→Hp→VK→Prop):Prop :=
 ∀ (pins:List (Addr × Obj)) (s:Shared) (σ:St) (H:Hp) (x:V) (v:Value) (Q:VK),Inv X pins σ H s→RelV x v→r x H Q →
  wpAny (model X.prog X.w) X.A (f v) (EP X pins σ Q) X.xe s
def CallR (X:Cx) (f:Value) (r:List V→Hp→VK→Prop):Prop :=
 ∀ (pins:List (Addr × Obj)) (s:Shared) (σ:St) (H:Hp) (xs:List V) (us:List Value) (Q:VK),Inv X pins σ H s→Vals xs us→r xs H Q →
  wpAny (model X.prog X.w) X.A (call f us) (EP X pins σ Q) X.xe s
def TruR (X:Cx) (r:V→Hp→(Bool→Hp→Prop)→Prop):Prop :=
 ∀ (pins:List (Addr × Obj)) (s:Shared) (σ:St) (H:Hp) (x:V) (v:Value) (Q:Bool→Hp→Prop),Inv X pins σ H s→RelV x v→r x H Q →
  wpAny (model X.prog X.w) X.A (truthy v) (TP X pins σ Q) X.xe s
noncomputable def tOp (r:R2) (ta tb:TE):TE:=fun σ H Q=>ta σ H fun x H1=>tb σ H1 fun y H2=>r x y H2 Q
noncomputable def tUn (r:V→Hp→VK→Prop) (ta:TE):TE:=fun σ H Q=>ta σ H fun x H1=>r x H1 Q
noncomputable def rI (C:Int→Int→Prop) (g:Int→Int→V):R2:=fun x y H Q=>∃ i j,x=.int i∧y=.int j∧C i j∧Q (g i j) H
noncomputable def rI0 (g:Int→Int→V):R2:=fun x y H Q=>∃ i j,x=.int i∧y=.int j∧Q (g i j) H
noncomputable def rU (g:Int→V):V→Hp→VK→Prop:=fun x H Q=>∃ i,x=.int i∧Q (g i) H
section
variable {X:Cx}{a b c:Expr}{ta tb tc:TE}{pos:Pos}
theorem binT (ha:PE X a ta) (hb:PE X b tb) {pins:List (Addr × Obj)}{s:Shared}{σ:St}{H:Hp}{R:V→V→Hp→Prop} (I:Inv X pins σ H s)
  (h:ta σ H fun x H1=>tb σ H1 fun y H2=>R x y H2) {Q:Value→Shared→Prop}{f:Value→Value→Sem Value}
  (hf:∀ v u s2 x y H2,Inv X pins σ H2 s2→RelV x v→RelV y u→R x y H2→wpAny (model X.prog X.w) X.A (f v u) Q X.xe s2) :
  wpAny (model X.prog X.w) X.A (eval a X.env) (fun v s₁=>wpAny (model X.prog X.w) X.A (eval b X.env) (fun u s₂=>wpAny (model X.prog X.w) X.A (f v u) Q X.xe s₂) X.xe s₁) X.xe s:=by
 refine thn (ha pins s σ H _ I h) fun v s1 ⟨x,H1,I1,r1,q1⟩=>?_
 refine thn (hb pins s1 σ H1 _ I1 q1) fun u s2 ⟨y,H2,I2,r2,q2⟩=>?_
 exact hf v u s2 x y H2 I2 r1 r2 q2
theorem pe_op {op:Operator}{r:R2} (ho:OpR X (binaryOp op) r) (ha:PE X a ta) (hb:PE X b tb):PE X (.BinOp a op b pos) (tOp r ta tb):=by
 intro pins s σ H Q I h
 exact wpAny_BinOp (binT ha hb I h fun v u s2 x y H2 I2 rx ry q=>ho pins s2 σ H2 x y v u Q I2 rx ry q)
theorem pe_un {op:UnaryOp}{r:V→Hp→VK→Prop} (ho:UnR X (unaryOp op) r) (ha:PE X a ta):PE X (.UnaryOp op a pos) (tUn r ta):=by
 intro pins s σ H Q I h
 exact UnaryOp_ (thn (ha pins s σ H _ I h) fun v s1 ⟨x,H1,I1,r1,q1⟩=>ho pins s1 σ H1 x v Q I1 r1 q1)
theorem opI {f:Value→Value→Sem Value}{C:Int→Int→Prop}{g:Int→Int→Int}
  (rule:∀ (i j:Int) (t u:Tok) (s:Shared) (Q:Value→Shared→Prop) (E:Value→Shared→Prop),C i j→Q (.int (g i j) s.toks) { s with toks:=s.toks+1 }→wpAny (model X.prog X.w) X.A (f (.int i t) (.int j u)) Q E s) :
  OpR X f (rI C fun i j=>.int (g i j)):=by
 intro pins s σ H x y v u Q I rx ry h
 obtain ⟨i,j,rfl,rfl,hc,q⟩:=h
 obtain ⟨t,rfl⟩:=rx
 obtain ⟨t',rfl⟩:=ry
 exact rule i j t t' s _ _ hc ⟨.int (g i j),H,I.tok _,⟨_,rfl⟩,q⟩
theorem opI0 {f:Value→Value→Sem Value}{g:Int→Int→Int}
  (rule:∀ (i j:Int) (t u:Tok) (s:Shared) (Q:Value→Shared→Prop) (E:Value→Shared→Prop),Q (.int (g i j) s.toks) { s with toks:=s.toks+1 }→wpAny (model X.prog X.w) X.A (f (.int i t) (.int j u)) Q E s) :
  OpR X f (rI0 fun i j=>.int (g i j)):=by
 intro pins s σ H x y v u Q I rx ry h
 obtain ⟨i,j,rfl,rfl,q⟩:=h
 obtain ⟨t,rfl⟩:=rx
 obtain ⟨t',rfl⟩:=ry
 exact rule i j t t' s _ _ ⟨.int (g i j),H,I.tok _,⟨_,rfl⟩,q⟩
theorem opB0 {f:Value→Value→Sem Value}{g:Int→Int→Bool}
  (rule:∀ (i j:Int) (t u:Tok) (s:Shared) (Q:Value→Shared→Prop) (E:Value→Shared→Prop),Q (.bool (g i j)) s→wpAny (model X.prog X.w) X.A (f (.int i t) (.int j u)) Q E s) :
  OpR X f (rI0 fun i j=>.bl (g i j)):=by
 intro pins s σ H x y v u Q I rx ry h
 obtain ⟨i,j,rfl,rfl,q⟩:=h
 obtain ⟨t,rfl⟩:=rx
 obtain ⟨t',rfl⟩:=ry
 exact rule i j t t' s _ _ ⟨.bl (g i j),H,I,rfl,q⟩
def CDiv (i j:Int):Prop:=0<j∧j<1073741824
def CPow (i j:Int):Prop:=0≤j∧j≤1000000∧i.natAbs<2 ^ 64
def CMul (i j:Int):Prop:=(-(2 ^ 64)<i∧i<2 ^ 64)∨(-(2 ^ 64)<j∧j<2 ^ 64)
theorem CMul.ok {i j:Int} (h:CMul i j):IntMulOk i j:=by
 rcases h with ⟨h1,h2⟩ | ⟨h1,h2⟩
 ·exact .of_left (intBits_le_64 h1 h2)
 ·exact .of_right (intBits_le_64 h1 h2)
theorem two_pow_nn (k:Nat):(0:Int)≤2 ^ k:=by
 rw [two_pow_cast]
 exact Int.natCast_nonneg _
theorem op_add:OpR X (binaryOp .Add) (rI0 fun i j=>.int (i+j)):=opI0 fun _ _ _ _ _ _ _ q=>add_int q
theorem op_sub:OpR X (binaryOp .Sub) (rI0 fun i j=>.int (i - j)):=opI0 fun _ _ _ _ _ _ _ q=>sub_int q
theorem op_mul:OpR X (binaryOp .Mult) (rI CMul fun i j=>.int (i*j)):=opI fun _ _ _ _ _ _ _ hc q=>mul_int q hc.ok
theorem op_fdiv:OpR X (binaryOp .FloorDiv) (rI CDiv fun i j=>.int (i / j)):=opI fun i j _ _ _ _ _ hc q=>by
 have h1:(0:Int)<j:=hc.1
 have h2:j<1073741824:=hc.2
 exact floordiv_int (by omega) (by rw [Int.fdiv_eq_ediv_of_nonneg i (by omega)]; exact q) (.inl (PyProof.noPylong_small (by omega)))
theorem op_mod:OpR X (binaryOp .Mod) (rI (fun _ j=>0<j) fun i j=>.int (i % j)):=opI fun i j _ _ _ _ _ hc q=>by
 have h1:(0:Int)<j:=hc
 exact mod_int' (by omega) (by rw [Int.fmod_eq_emod_of_nonneg i (by omega)]; exact q)
theorem op_pow:OpR X (binaryOp .Pow) (rI CPow fun i j=>.int (i ^ j.toNat)):=opI fun _ _ _ _ _ _ _ hc q=>pow_int_small hc.1 hc.2.1 hc.2.2 q
theorem op_shl:OpR X (binaryOp .LShift) (rI CPow fun i j=>.int (i*2 ^ j.toNat)):=opI fun _ _ _ _ _ _ _ hc q=>lshift_int_small hc.1 hc.2.1 hc.2.2 q
theorem op_shr:OpR X (binaryOp .RShift) (rI (fun _ j=>0≤j) fun i j=>.int (i / 2 ^ j.toNat)):=opI fun i j _ _ _ _ _ hc q =>
 rshift_int hc (by rw [Int.fdiv_eq_ediv_of_nonneg i (two_pow_nn _)]; exact q)
theorem op_and:OpR X (binaryOp .BitAnd) (rI0 fun i j=>.int (Builtin.bitAnd i j)):=opI0 fun _ _ _ _ _ _ _ q=>and_int q
theorem op_or:OpR X (binaryOp .BitOr) (rI0 fun i j=>.int (Builtin.bitOr i j)):=opI0 fun _ _ _ _ _ _ _ q=>or_int q
theorem op_xor:OpR X (binaryOp .BitXor) (rI0 fun i j=>.int (Builtin.bitXor i j)):=opI0 fun _ _ _ _ _ _ _ q=>xor_int q
theorem unI {f:Value→Sem Value}{g:Int→Int}
  (rule:∀ (i:Int) (t:Tok) (s:Shared) (Q:Value→Shared→Prop) (E:Value→Shared→Prop),Q (.int (g i) s.toks) { s with toks:=s.toks+1 }→wpAny (model X.prog X.w) X.A (f (.int i t)) Q E s) :
  UnR X f (rU fun i=>.int (g i)):=by
 intro pins s σ H x v Q I rx h
 obtain ⟨i,rfl,q⟩:=h
 obtain ⟨t,rfl⟩:=rx
 exact rule i t s _ _ ⟨.int (g i),H,I.tok _,⟨_,rfl⟩,q⟩
theorem un_neg:UnR X (unaryOp .USub) (rU fun i=>.int (-i)):=unI fun _ _ _ _ _ q=>neg_int q
end
noncomputable def scal:V→V→Bool
 | .non,.non=>true | .non,.int _=>true | .int _,.non=>true | .non,.bl _=>true | .bl _,.non=>true | .non,.str _=>true | .str _,.non=>true
 | .int _,.int _=>true | .bl _,.bl _=>true | .str _,.str _=>true | .byt _,.byt _=>true
 | .int _,.str _=>true | .str _,.int _=>true | .bl _,.str _=>true | .str _,.bl _=>true
 | _,_=>false
noncomputable def rEq:R2:=fun x y H Q=>scal x y=true∧Q (.bl (decide (x=y))) H
noncomputable def rNe:R2:=fun x y H Q=>scal x y=true∧Q (.bl (!decide (x=y))) H
theorem dec_int {i j:Int}:decide (V.int i=V.int j)=(i == j):=by
 rw [Bool.eq_iff_iff]
 simp
theorem dec_bl {i j:Bool}:decide (V.bl i=V.bl j)=(i == j):=by
 rw [Bool.eq_iff_iff]
 simp
theorem dec_str {i j:Str}:decide (V.str i=V.str j)=(i == j):=by
 rw [Bool.eq_iff_iff]
 simp
theorem dec_byt {i j:Array UInt8}:decide (V.byt i=V.byt j)=(i.toList == j.toList):=by
 rw [Bool.eq_iff_iff]
 cases i
 cases j
 simp
section
variable {X:Cx}{a b c:Expr}{ta tb tc:TE}{pos:Pos}
theorem fin_bl {pins:List (Addr × Obj)}{σ:St}{H:Hp}{s:Shared}{Q:VK}{k k':Bool} (I:Inv X pins σ H s) (q:Q (.bl k) H) (e:k=k'):EP X pins σ Q (.bool k') s:=by
 subst e
 exact ⟨.bl k,H,I,rfl,q⟩
theorem op_eq:OpR X (compareOp .Eq) rEq:=by
 intro pins s σ H x y v u Q I rx ry h
 obtain ⟨hs,q⟩:=h
 cases x with
 | non =>
  cases rx
  cases y with
  | non=>cases ry; exact PySem.EqNone.eq_none_none (fin_bl I q (by simp))
  | bl j=>cases ry; exact PySem.EqNone.eq_none_bool (fin_bl I q (by simp))
  | int j=>obtain ⟨t',rfl⟩:=ry; exact PySem.EqNone.eq_none_int (fin_bl I q (by simp))
  | str j=>obtain ⟨t',rfl⟩:=ry; exact PySem.EqNone.eq_none_str (fin_bl I q (by simp))
  | _=>exact absurd (show false=true from hs) Bool.false_ne_true
 | bl i =>
  cases rx
  cases y with
  | non=>cases ry; exact PySem.EqNone.eq_bool_none (fin_bl I q (by simp))
  | bl j=>cases ry; exact eq_bool (fin_bl I q dec_bl)
  | str j=>obtain ⟨t',rfl⟩:=ry; exact PySem.EqMixed.eq_bool_str (fin_bl I q (by simp))
  | _=>exact absurd (show false=true from hs) Bool.false_ne_true
 | int i =>
  obtain ⟨t,rfl⟩:=rx
  cases y with
  | non=>cases ry; exact PySem.EqNone.eq_int_none (fin_bl I q (by simp))
  | int j=>obtain ⟨t',rfl⟩:=ry; exact eq_int (fin_bl I q dec_int)
  | str j=>obtain ⟨t',rfl⟩:=ry; exact PySem.EqMixed.eq_int_str (fin_bl I q (by simp))
  | _=>exact absurd (show false=true from hs) Bool.false_ne_true
 | str i =>
  obtain ⟨t,rfl⟩:=rx
  cases y with
  | non=>cases ry; exact PySem.EqNone.eq_str_none (fin_bl I q (by simp))
  | bl j=>cases ry; exact PySem.EqMixed.eq_str_bool (fin_bl I q (by simp))
  | int j=>obtain ⟨t',rfl⟩:=ry; exact PySem.EqMixed.eq_str_int (fin_bl I q (by simp))
  | str j=>obtain ⟨t',rfl⟩:=ry; exact eq_str (fin_bl I q dec_str)
  | _=>exact absurd (show false=true from hs) Bool.false_ne_true
 | byt i =>
  obtain ⟨t,rfl⟩:=rx
  cases y with
  | byt j=>obtain ⟨t',rfl⟩:=ry; exact W.eq_bytes (fin_bl I q dec_byt)
  | _=>exact absurd (show false=true from hs) Bool.false_ne_true
 | _=>cases y <;> exact absurd (show false=true from hs) Bool.false_ne_true
theorem op_ne:OpR X (compareOp .NotEq) rNe:=by
 intro pins s σ H x y v u Q I rx ry h
 obtain ⟨hs,q⟩:=h
 cases x with
 | non =>
  cases rx
  cases y with
  | non=>cases ry; exact PySem.EqNone.ne_none_none (fin_bl I q (by simp))
  | bl j=>cases ry; exact PySem.EqNone.ne_none_bool (fin_bl I q (by simp))
  | int j=>obtain ⟨t',rfl⟩:=ry; exact PySem.EqNone.ne_none_int (fin_bl I q (by simp))
  | str j=>obtain ⟨t',rfl⟩:=ry; exact PySem.EqNone.ne_none_str (fin_bl I q (by simp))
  | _=>exact absurd (show false=true from hs) Bool.false_ne_true
 | bl i =>
  cases rx
  cases y with
  | non=>cases ry; exact PySem.EqNone.ne_bool_none (fin_bl I q (by simp))
  | bl j=>cases ry; exact ne_bool (fin_bl I q (congrArg not dec_bl))
  | str j=>obtain ⟨t',rfl⟩:=ry; exact PySem.EqMixed.ne_bool_str (fin_bl I q (by simp))
  | _=>exact absurd (show false=true from hs) Bool.false_ne_true
 | int i =>
  obtain ⟨t,rfl⟩:=rx
  cases y with
  | non=>cases ry; exact PySem.EqNone.ne_int_none (fin_bl I q (by simp))
  | int j=>obtain ⟨t',rfl⟩:=ry; exact ne_int (fin_bl I q (congrArg not dec_int))
  | str j=>obtain ⟨t',rfl⟩:=ry; exact PySem.EqMixed.ne_int_str (fin_bl I q (by simp))
  | _=>exact absurd (show false=true from hs) Bool.false_ne_true
 | str i =>
  obtain ⟨t,rfl⟩:=rx
  cases y with
  | non=>cases ry; exact PySem.EqNone.ne_str_none (fin_bl I q (by simp))
  | bl j=>cases ry; exact PySem.EqMixed.ne_str_bool (fin_bl I q (by simp))
  | int j=>obtain ⟨t',rfl⟩:=ry; exact PySem.EqMixed.ne_str_int (fin_bl I q (by simp))
  | str j=>obtain ⟨t',rfl⟩:=ry; exact ne_str (fin_bl I q (congrArg not dec_str))
  | _=>exact absurd (show false=true from hs) Bool.false_ne_true
 | byt i =>
  obtain ⟨t,rfl⟩:=rx
  cases y with
  | byt j=>obtain ⟨t',rfl⟩:=ry; exact W.ne_bytes (fin_bl I q (congrArg not dec_byt))
  | _=>exact absurd (show false=true from hs) Bool.false_ne_true
 | _=>cases y <;> exact absurd (show false=true from hs) Bool.false_ne_true
theorem op_lt:OpR X (compareOp .Lt) (rI0 fun i j=>.bl (decide (i<j))):=opB0 fun _ _ _ _ _ _ _ q=>lt_int q
theorem op_le:OpR X (compareOp .LtE) (rI0 fun i j=>.bl (decide (i≤j))):=opB0 fun _ _ _ _ _ _ _ q=>le_int q
theorem op_gt:OpR X (compareOp .Gt) (rI0 fun i j=>.bl (decide (j<i))):=opB0 fun _ _ _ _ _ _ _ q=>gt_int q
theorem op_ge:OpR X (compareOp .GtE) (rI0 fun i j=>.bl (decide (j≤i))):=opB0 fun _ _ _ _ _ _ _ q=>ge_int q
theorem op_isN:OpR X (compareOp .Is) (fun x y H Q=>y=.non∧Q (.bl (decide (x=.non))) H):=by
 intro pins s σ H x y v u Q I rx ry h
 obtain ⟨rfl,q⟩:=h
 cases ry
 refine is_none_gen (fin_bl I q ?_)
 cases x <;> first
  | (cases rx; rfl)
  | (obtain ⟨t,rfl⟩:=rx; rfl)
theorem op_notN:OpR X (compareOp .IsNot) (fun x y H Q=>y=.non∧Q (.bl (!decide (x=.non))) H):=by
 intro pins s σ H x y v u Q I rx ry h
 obtain ⟨rfl,q⟩:=h
 cases ry
 refine isnot_none_gen (fin_bl I q ?_)
 cases x <;> first
  | (cases rx; rfl)
  | (obtain ⟨t,rfl⟩:=rx; rfl)
theorem pe_cmpR {op:CmpOp}{r:R2} (ho:OpR X (compareOp op) r) (ha:PE X a ta) (hb:PE X b tb) (hm:behindInMarks op b=false):PE X (.Compare a [op] [b] pos) (tOp r ta tb):=by
 intro pins s σ H Q I h
 exact wpAny_Compare1 (binT ha hb I h fun v u s2 x y H2 I2 rx ry q=>ho pins s2 σ H2 x y v u Q I2 rx ry q) hm
noncomputable def tTest (t:TE):TT:=fun σ H Q=>t σ H fun x H'=>∃ k,x=.bl k∧Q k H'
theorem pt_cmpR {op:CmpOp}{r:R2} (ho:OpR X (compareOp op) r) (ha:PE X a ta) (hb:PE X b tb) (hm:behindInMarks op b=false):PT X (.Compare a [op] [b] pos) (tTest (tOp r ta tb)):=by
 intro pins s σ H Q I h
 refine wpAny_isTrue_Compare1 (thn (ha pins s σ H _ I h) fun v s1 ⟨x,H1,I1,r1,q1⟩=>thn (hb pins s1 σ H1 _ I1 q1) fun u s2 ⟨y,H2,I2,r2,q2⟩ =>
  thn (ho pins s2 σ H2 x y v u _ I2 r1 r2 q2) fun c s3 ⟨z,H3,I3,r3,k,e,q3⟩=>?_) hm
 subst e
 cases r3
 exact wpAny_truthy_bool ⟨H3,I3,q3⟩
noncomputable def tChain (r r':R2) (ta tb tc:TE):TE:=fun σ H Q=>ta σ H fun x H1=>tb σ H1 fun y H2=>r x y H2 fun z H3=>∃ k,z=.bl k ∧
 (if k=true then tc σ H3 fun w' H4=>r' y w' H4 Q else Q (.bl false) H3)
theorem pe_chain {op op':CmpOp}{r r':R2} (ho:OpR X (compareOp op) r) (ho':OpR X (compareOp op') r') (ha:PE X a ta) (hb:PE X b tb) (hc:PE X c tc)
  (hm:lastMarks [op,op'] [b,c]=false:=by with_unfolding_all rfl):PE X (.Compare a [op,op'] [b,c] pos) (tChain r r' ta tb tc):=by
 intro pins s σ H Q I h
 refine Compare_chain (thn (ha pins s σ H _ I h) fun v s1 ⟨x,H1,I1,r1,q1⟩=>chain_link (thn (hb pins s1 σ H1 _ I1 q1) fun u s2 ⟨y,H2,I2,r2,q2⟩ =>
  thn (ho pins s2 σ H2 x y v u _ I2 r1 r2 q2) fun d s3 ⟨z,H3,I3,r3,k,e,q3⟩=>?_)) hm
 subst e
 cases r3
 refine wpAny_truthy_bool ?_
 cases k with
 | false=>exact ite_ff ⟨.bl false,H3,I3,rfl,q3⟩
 | true=>exact ite_tt (chain_last (thn (hc pins s3 σ H3 _ I3 q3) fun w' s4 ⟨z',H4,I4,r4,q4⟩=>ho' pins s4 σ H4 y z' u w' Q I4 r2 r4 q4))
theorem pt_chain {op op':CmpOp}{r r':R2} (ho:OpR X (compareOp op) r) (ho':OpR X (compareOp op') r') (ha:PE X a ta) (hb:PE X b tb) (hc:PE X c tc)
  (hm:lastMarks [op,op'] [b,c]=false:=by with_unfolding_all rfl):PT X (.Compare a [op,op'] [b,c] pos) (tTest (tChain r r' ta tb tc)):=by
 intro pins s σ H Q I h
 refine isTrue_chain (thn (ha pins s σ H _ I h) fun v s1 ⟨x,H1,I1,r1,q1⟩=>test_link (thn (hb pins s1 σ H1 _ I1 q1) fun u s2 ⟨y,H2,I2,r2,q2⟩ =>
  thn (ho pins s2 σ H2 x y v u _ I2 r1 r2 q2) fun d s3 ⟨z,H3,I3,r3,k,e,q3⟩=>?_)) hm
 subst e
 cases r3
 refine wpAny_truthy_bool ?_
 cases k with
 | false =>
  obtain ⟨k',e',q'⟩:=q3
  cases e'
  exact ite_ff ⟨H3,I3,q'⟩
 | true =>
  refine ite_tt (test_last (thn (hc pins s3 σ H3 _ I3 q3) fun w' s4 ⟨z',H4,I4,r4,q4⟩=>thn (ho' pins s4 σ H4 y z' u w' _ I4 r2 r4 q4) fun d' s5 ⟨z2,H5,I5,r5,k2,e2,q5⟩=>?_))
  subst e2
  cases r5
  exact wpAny_truthy_bool ⟨H5,I5,q5⟩
def TruV (K:W.Frag) (x:V) (H:Hp) (k:Bool):Prop :=
 match x with
 | .non=>k=false
 | .bl b=>k=b
 | .int i=>k=(i != 0)
 | .str y=>y.length≤sizeLine∧k=((y.length:Int) != 0)
 | .byt y=>y.size≤sizeLine∧k=((y.size:Int) != 0)
 | .ref p=>(∃ xs,SqL K H p xs∧k=!xs.isEmpty)∨(∃ xs,SqT K H p xs∧k=!xs.isEmpty)∨∃ kvs,H p=some (.dK kvs)∧k=!kvs.isEmpty
 | _=>False
theorem isEmpty_kv {κ:Type}{kvs:List (κ × V)}{vs:List (κ × Value)} (r:KV kvs vs):(!vs.isEmpty)=!kvs.isEmpty:=by
 cases r <;> rfl
theorem isEmpty_of {xs:List V}{its:List Value} (r:Vals xs its):(!its.toArray.isEmpty)=!xs.isEmpty:=by
 cases r <;> simp
theorem line63:(sizeLine:Nat)<2 ^ 63:=by rw [sizeLine_eq]; decide
theorem tru_ok:TruR X (fun x H Q=>∃ k,TruV X.K x H k∧Q k H):=by
 intro pins s σ H x v Q I rx h
 obtain ⟨k,e,q⟩:=h
 have hl:=line63
 have hs:sizeLine=16777216:=sizeLine_eq
 cases x with
 | non =>
  cases rx
  have e':k=false:=e
  subst e'
  exact truthy_none ⟨H,I,q⟩
 | bl b =>
  cases rx
  have e':k=b:=e
  subst e'
  exact wpAny_truthy_bool ⟨H,I,q⟩
 | int i =>
  obtain ⟨t,rfl⟩:=rx
  have e':k=(i != 0):=e
  subst e'
  exact PySem.P.truthy_int ⟨H,I,q⟩
 | str y =>
  obtain ⟨t,rfl⟩:=rx
  obtain ⟨hy,e'⟩:y.length≤sizeLine∧k=((y.length:Int) != 0):=e
  subst e'
  exact PySem.P.truthy_str (by omega) ⟨H,I.tok _,q⟩
 | byt y =>
  obtain ⟨t,rfl⟩:=rx
  obtain ⟨hy,e'⟩:y.size≤sizeLine∧k=((y.size:Int) != 0):=e
  subst e'
  exact W.truthy_bytes (by omega) ⟨H,I.tok _,q⟩
 | ref p =>
  cases rx
  have e':(∃ xs,SqL X.K H p xs∧k=!xs.isEmpty)∨(∃ xs,SqT X.K H p xs∧k=!xs.isEmpty)∨∃ kvs,H p=some (.dK kvs)∧k=!kvs.isEmpty:=e
  rcases e' with ⟨xs,hx,e'⟩ | ⟨xs,hx,e'⟩ | ⟨kvs,hx,e'⟩
  ·subst e'
   obtain ⟨its,r,pl,hz⟩:=I.list hx
   have hlen:=r.length
   exact wpAny_truthy_list pl.isList (by simp only [List.size_toArray]; omega) ⟨H,I.tok _,by rw [isEmpty_of r]; exact q⟩
  ·subst e'
   obtain ⟨its,r,pl,hz⟩:=I.tuple hx
   have hlen:=r.length
   exact truthy_tuple pl (by simp only [List.size_toArray]; omega) ⟨H,I.tok _,by rw [isEmpty_of r]; exact q⟩
  ·subst e'
   obtain ⟨hz,hS,vs,r,m⟩:kvs.length≤sizeLine∧(p == sysModules)=false∧∃ vs,KV kvs vs∧s.heap.DictOf (mixKind X.prog X.w) p vs:=I.hok p _ hx
   have hlen:kvs.length=vs.length:=Paired.length r
   exact wpAny_truthy_dict hS m (by omega) ⟨H,I.tok _,by rw [isEmpty_kv r]; exact q⟩
 | _=>exact (show False from e).elim
theorem pt_truth (ha:PE X a ta) (he:∀ whole,isTrue a X.env whole=(do let v ← whole; standAt a.pos; holding [v] (truthy v))) :
  PT X a (fun σ H Q=>ta σ H fun x H'=>∃ k,TruV X.K x H' k∧Q k H'):=by
 intro pins s σ H Q I h
 exact isTrue_plain (thn (ha pins s σ H _ I h) fun v s1 ⟨x,H1,I1,r1,q1⟩=>tru_ok pins s1 σ H1 x v Q I1 r1 q1) (he _)
theorem op_add_str:OpR X (binaryOp .Add) (fun x y H Q=>∃ i j,x=.str i∧y=.str j∧i.length+j.length≤sizeLine∧Q (.str (i++j)) H):=by
 intro pins s σ H x y v u Q I rx ry h
 obtain ⟨i,j,rfl,rfl,hz,q⟩:=h
 obtain ⟨t,rfl⟩:=rx
 obtain ⟨t',rfl⟩:=ry
 exact add_str (fun t' tk=>⟨.str (i++j),H,I.tok _,⟨_,rfl⟩,q⟩) hz
theorem vals1 {x:V}{us:List Value} (r:Vals [x] us):∃ u,us=[u]∧RelV x u:=by
 cases r with
 | cons r1 r2=>cases r2; exact ⟨_,rfl,r1⟩
theorem vals2 {x y:V}{us:List Value} (r:Vals [x,y] us):∃ u w',us=[u,w']∧RelV x u∧RelV y w':=by
 cases r with
 | cons r1 r2 =>
  cases r2 with
  | cons r3 r4=>cases r4; exact ⟨_,_,rfl,r1,r3⟩
theorem call_max2 (hc:X.calm=true):CallR X (.builtin "max") (fun xs H Q=>∃ i j,xs=[.int i,.int j]∧Q (.int (if j>i then j else i)) H):=by
 intro pins s σ H xs us Q I r h
 obtain ⟨i,j,rfl,q⟩:=h
 obtain ⟨u,w',rfl,⟨t,rfl⟩,⟨t',rfl⟩⟩:=vals2 r
 refine max_two_ints (I.ok.hd hc) fun h' tk k=>⟨_,H,I.kept k,?_,q⟩
 by_cases hj:j>i
 ·rw [if_pos hj,if_pos hj]; exact ⟨_,rfl⟩
 ·rw [if_neg hj,if_neg hj]; exact ⟨_,rfl⟩
theorem call_min2 (hc:X.calm=true):CallR X (.builtin "min") (fun xs H Q=>∃ i j,xs=[.int i,.int j]∧Q (.int (if j<i then j else i)) H):=by
 intro pins s σ H xs us Q I r h
 obtain ⟨i,j,rfl,q⟩:=h
 obtain ⟨u,w',rfl,⟨t,rfl⟩,⟨t',rfl⟩⟩:=vals2 r
 refine min_two_ints (I.ok.hd hc) fun h' tk k=>⟨_,H,I.kept k,?_,q⟩
 by_cases hj:j<i
 ·rw [if_pos hj,if_pos hj]; exact ⟨_,rfl⟩
 ·rw [if_neg hj,if_neg hj]; exact ⟨_,rfl⟩
theorem call_int1:CallR X (.type "int") (fun xs H Q=>(∃ i,xs=[.int i]∧Q (.int i) H)∨∃ k,xs=[.bl k]∧Q (.int (if k then 1 else 0)) H):=by
 intro pins s σ H xs us Q I r h
 rcases h with ⟨i,rfl,q⟩ | ⟨k,rfl,q⟩
 ·obtain ⟨u,rfl,t,rfl⟩:=vals1 r
  exact call_int_int ⟨.int i,H,I,⟨_,rfl⟩,q⟩
 ·obtain ⟨u,rfl,r1⟩:=vals1 r
  cases r1
  exact call_int_bool ⟨.int (if k then 1 else 0),H,I.tok _,⟨_,rfl⟩,q⟩
theorem call_str_int:CallR X (.type "str") (fun xs H Q=>∃ i,xs=[.int i]∧i.natAbs.log2<1920∧Q (.str (toString i)) H):=by
 intro pins s σ H xs us Q I r h
 obtain ⟨i,rfl,hz,q⟩:=h
 obtain ⟨u,rfl,t,rfl⟩:=vals1 r
 exact PySem.P.str_of_int hz ⟨.str _,H,I.tok _,⟨_,rfl⟩,q⟩
end
theorem RelO.some_of {v:V}{o:Option Value} (r:RelO (some v) o):∃ u,o=some u∧RelV v u:=by
 cases o with
 | none=>exact (show False from r).elim
 | some u=>exact ⟨u,rfl,r⟩
structure Room (k:Nat) (A:Around):Prop where
 hd:A.handled=none
 dp:A.depth+3*k+5<recursionLimit
 un:A.units+16*k+200<cLine
 gd:A.guards=some []
theorem Room.mono {j k:Nat}{A:Around} (r:Room k A) (h:j≤k):Room j A:=⟨r.hd,by have:=r.dp; omega,by have:=r.un; omega,r.gd⟩
theorem Room.deeper {k:Nat}{A:Around} (r:Room (k+1) A) (env:Env):Room k (A.deeper env) :=
 ⟨r.hd,by have:=r.dp; show A.depth+1+3*k+5<_; omega,by have:=r.un; show A.units+3+16*k+200<_; omega,r.gd⟩
theorem Room.depth {k:Nat}{A:Around} (r:Room k A):A.depth<recursionLimit:=by have:=r.dp; omega
theorem Room.units {k:Nat}{A:Around} (r:Room k A):A.units+64<cLine:=by have:=r.un; omega
theorem Room.units0 {k:Nat}{A:Around} (r:Room k A):A.units<cLine:=by have:=r.un; omega
noncomputable def tNil:TA:=fun _ H Q=>Q [] H
noncomputable def tCons (ta:TE) (tr:TA):TA:=fun σ H Q=>ta σ H fun x H1=>tr σ H1 fun xs H2=>Q (x::xs) H2
section
variable {X:Cx}{e:Expr}{es:List Expr}{te:TE}{t:TA}{pos:Pos}
theorem pa_nil:PA X [] tNil:=fun _ _ _ _ H Q I h=>Calls.spliced_nil ⟨[],H,I,.nil,h⟩
theorem pa_cons (ha:PE X e te) (hr:PA X es t) (hs:starEach (e::es) X.env=(false,eval e X.env)::starEach es X.env:=by rfl):PA X (e::es) (tCons te t):=by
 intro pos pins s σ H Q I h
 rw [hs]
 show wpAny _ _ (spliced ((false,eval e X.env)::backTo pos (starEach es X.env))) _ _ s
 refine Calls.spliced_cons (thn (ha pins s σ H _ I h) fun u s1 ⟨x,H1,I1,r1,q1⟩=>?_)
 exact thn (hr pos pins s1 σ H1 _ I1 q1) fun us s2 ⟨xs,H2,I2,r2,q2⟩=>⟨x::xs,H2,I2,.cons r1 r2,q2⟩
noncomputable def tTup (t:TA):TE:=fun σ H Q=>t σ H fun xs H1=>xs.length≤sizeLine∧∀ p,H1 p=none→Q (.ref p) (upd H1 p (.tup xs))
noncomputable def tLst (t:TA):TE:=fun σ H Q=>t σ H fun xs H1=>xs.length≤sizeLine∧∀ p,H1 p=none→Q (.ref p) (upd H1 p (.lst xs))
theorem pe_tup {x1} (h:PA X es t):PE X (.Tuple es x1 pos) (tTup t):=by
 intro pins s σ H Q I hq
 refine wpAny_Tuple_spliced (thn (h pos pins s σ H _ I hq) fun us s1 ⟨xs,H1,I1,r,z,q⟩=>⟨by rw [← r.length]; exact z,?_⟩)
 have hf:H1 s1.heap.objs.size=none:=I1.hok.fresh (Nat.le_refl _)
 refine ⟨.ref s1.heap.objs.size,upd H1 s1.heap.objs.size (.tup xs),I1.laid (t':=s1.toks) (fun b u e=>Heap.get?_push_of_some _ e) (Nat.le_refl _) ?_,rfl,q _ hf⟩
 exact ⟨z,us,r,⟨_,Heap.get?_push_size _ rfl,rfl,_,rfl⟩⟩
theorem pe_lst (h:PA X es t):PE X (.List es pos) (tLst t):=by
 intro pins s σ H Q I hq
 refine wpAny_List_spliced (thn (h pos pins s σ H _ I hq) fun us s1 ⟨xs,H1,I1,r,z,q⟩=>⟨by rw [← r.length]; exact z,?_⟩)
 have hf:H1 s1.heap.objs.size=none:=I1.hok.fresh (Nat.le_refl _)
 refine ⟨.ref s1.heap.objs.size,upd H1 s1.heap.objs.size (.lst xs),I1.laid (t':=s1.toks) (fun b u e=>Heap.get?_push_of_some _ e) (Nat.le_refl _) ?_,rfl,q _ hf⟩
 exact ⟨z,us,0,r,Heap.get?_push_size _ rfl⟩
end
noncomputable abbrev Sp:=List V→Hp→VK→XK→Prop
noncomputable abbrev CXT:=List Env→Hp→Shared→XK→Value→Shared→Prop
structure Env0 (P:Program) (w:World) (K:W.Frag) (mg:Str→Option Value) (base:Heap) (A:Around) (outer:List Env) (s:Shared) (H:Hp):Prop where
 frames:A.frames=some outer
 mod:Mod K mg base
 bs:∀ b o,base.get? b=some o→s.heap.get? b=some o∧H b=none
 bsz:base.objs.size≤s.heap.objs.size
 funs:s.heap.FunFrames base outer
 frf:∀ b∈frs outer,H b=none
 hok:HOk P w H s.heap
 bare:AllBare s.gens
def CE (outer:List Env) (P:Program) (w:World) (H:Hp) (s:Shared) (Q:VK) (u:Value) (s':Shared):Prop :=
 ∃ v H',s'.os=s.os∧AllBare s'.gens∧Un (frs outer) [] H H' s.heap s'.heap∧HOk P w H' s'.heap∧RelV v u∧Q v H'
def CR (CX:CXT) (outer:List Env) (P:Program) (w:World) (H:Hp) (s:Shared) (Q:VK) (E:XK) (r:Result) (s':Shared):Prop :=
 match r with
 | .ok (.ret u)=>CE outer P w H s Q u s'
 | .ok _=>False
 | .error e=>CX outer H s E e s'
structure FnOk (P:Program) (w:World) (K:W.Frag) (mg:Str→Option Value) (base:Heap) (CX:CXT) (k:Nat) (f:Addr) (fd:FuncData) (ps:List Str) (sp:Sp):Prop where
 len:∀ vs H Q E,sp vs H Q E→vs.length=ps.length
 run:∀ (A:Around) (outer:List Env) (s:Shared) (H:Hp) (args:Args) (us:List Value) (vs:List V) (Q:VK) (E:XK),Room k A→Env0 P w K mg base A outer s H→BindsTo s fd args (ps.zip us)→Vals vs us→sp vs H Q E →
  codeAny (model P w) A (.call (.ref f) args) (CR CX outer P w H s Q E) s
theorem FnOk.imp {P:Program}{w:World}{K:W.Frag}{mg:Str→Option Value}{base:Heap}{CX:CXT}{k:Nat}{f:Addr}{fd:FuncData}{ps:List Str}{sp sp':Sp} (F:FnOk P w K mg base CX k f fd ps sp)
  (h:∀ vs H Q E,sp' vs H Q E→sp vs H Q E):FnOk P w K mg base CX k f fd ps sp' :=
 ⟨fun vs H Q E q=>F.len vs H Q E (h _ _ _ _ q),fun A outer s H args us vs Q E hr he hb hv hs=>F.run A outer s H args us vs Q E hr he hb hv (h _ _ _ _ hs)⟩
section
variable {X:Cx}{pins:List (Addr × Obj)}{σ:St}{H:Hp}{s s':Shared}
theorem Inv.env0 (I:Inv X pins σ H s):Env0 X.prog X.w X.K X.mg X.base X.A X.stack s H :=
 ⟨I.ok.frames,I.ok.mod,I.bs,Nat.le_trans I.ok.bsz I.sz,I.stack,I.stkFree,I.hok,I.bare⟩
theorem Inv.after {Q:VK}{u:Value} (I:Inv X pins σ H s) (h:CE X.stack X.prog X.w H s Q u s'):EP X pins σ Q u s':=by
 obtain ⟨v,H',os,bare,un,hok,r,q⟩:=h
 obtain ⟨hh,g,d,t,os'⟩:=s'
 obtain rfl:os'=s.os:=os
 exact ⟨v,H',I.call (h':=hh) (g':=g) (d':=d) (t':=t) (ch:=[]) un hok bare (fun b z=>absurd z (by simp)),r,q⟩
end
noncomputable def tCall (sp:Sp) (dvs:List V) (E:XK) (t:TA):TE:=fun σ H Q=>t σ H fun vs H1=>sp (vs++dvs) H1 Q E
def Binds (K:W.Frag) (fd:FuncData) (ps:List Str) (ds:List Value):Prop :=
 ∀ (s:Shared) (us:List Value),K.In s.heap→(us++ds).length=ps.length→BindsTo s fd ⟨us,[]⟩ (ps.zip (us++ds))
theorem Binds.all {K:W.Frag}{fd:FuncData}{ps:List Str} (h:∀ us:List Value,us.length=ps.length→bindArgs fd ⟨us,[]⟩=pure (ps.zip us)):Binds K fd ps []:=fun s us _ hl=>by
 rw [List.append_nil] at hl ⊢
 exact .of_eq (h us hl)
def Passes (CX:CXT) (X:Cx) (E:XK):Prop:=∀ (pins:List (Addr × Obj)) (σ:St) (H:Hp) (s:Shared) (e:Value) (s':Shared),Inv X pins σ H s→CX X.stack H s E e s'→X.xe e s'
section
variable {X:Cx}{CX:CXT}{k:Nat}{f C:Addr}{fd:FuncData}{ps:List Str}{sp:Sp}{dvs:List V}{ds:List Value}{E:XK}{x m:Str}{p pos apos:Pos}{e o:Expr}{es:List Expr}{ta:TE}{t:TA}
theorem run_fn {pins:List (Addr × Obj)}{σ:St}{H:Hp}{s:Shared}{Q:VK}{us:List Value}{vs:List V} (F:FnOk X.prog X.w X.K X.mg X.base CX k f fd ps sp) (hr:Room k X.A) (hb:Binds X.K fd ps ds) (hd:Vals dvs ds) (hx:Passes CX X E)
  (I:Inv X pins σ H s) (r:Vals vs us) (h:sp (vs++dvs) H Q E):wpAny (model X.prog X.w) X.A (call (.ref f) us) (EP X pins σ Q) X.xe s:=by
 have r2:Vals (vs++dvs) (us++ds):=r.append hd
 have hl:(us++ds).length=ps.length:=by rw [← r2.length]; exact F.len _ _ _ _ h
 refine wpAny_call (codeAny_mono (F.run X.A X.stack s H ⟨us,[]⟩ (us++ds) (vs++dvs) Q E hr I.env0 (hb s us I.kIn hl) r2 h) fun r s' hq=>?_)
 cases r with
 | error e=>exact hx pins σ H s e s' I hq
 | ok fl =>
  cases fl with
  | ret u=>exact I.after hq
  | next=>exact False.elim hq
  | brk=>exact False.elim hq
  | cont=>exact False.elim hq
theorem pe_call (F:FnOk X.prog X.w X.K X.mg X.base CX k f fd ps sp) (hr:Room k X.A) (hg:Gl X x) (hm:X.mg x=some (.ref f)) (hk:W.keepIn X.K (.ref f)=true) (hb:Binds X.K fd ps ds) (hd:Vals dvs ds) (hx:Passes CX X E)
  (ha:PA X (e::es) t) (hdb:(x == ("__debug__":Str))=false:=by decide) (he:starEach (e::es) X.env=(false,eval e X.env)::starEach es X.env:=by rfl) (hpl:(backTo pos (starEach es X.env)).any (·.1)=false:=by rfl) :
  PE X (.Call (.Name x p) (e::es) [] pos) (tCall sp dvs E t):=by
 intro pins s σ H Q I h
 refine wpAny_Call_Name_kw (ld_glob I hg hm ?_ hdb)
 refine W.callWith_K (h₀:=X.base) I.ok.mod.kin hk (thn (ha pos pins s σ H _ I h) fun us s1 ⟨vs,H1,I1,r,q⟩=>⟨I1.kIn,?_⟩) he hpl
 exact run_fn F hr hb hd hx I1 r q
end
structure FnScope (N P:List Str) (sc:Scope):Prop where
 kind:sc.kind=.function
 co:sc.isCoroutine=false
 gen:sc.isGenerator=false
 nd:N.Nodup
 pre:N.take P.length=P
 par:∀ x∈P,sc.names.lookup x=some .local∨sc.names.lookup x=some .cell
 nofree:∀ y∈sc.names,y.2≠.free
theorem bindL_out {kindOf:Str→Option NameKind}{x:Str}:∀ {binds:List (Str × Value)}{m:Str→Option Value},(∀ v,(x,v)∉binds)→bindL kindOf binds m x=m x
 | [],_,_=>rfl
 | (n,v)::r,m,h=>by
  unfold bindL
  rw [bindL_out fun w hw=>h w (List.mem_cons_of_mem _ hw)]
  split
  ·have:x≠n:=by rintro rfl; exact h v List.mem_cons_self
   simp [this]
  ·rfl
theorem bindC_out {kindOf:Str→Option NameKind}{x:Str}:∀ {binds:List (Str × Value)}{m:Str→Option Value},(∀ v,(x,v)∉binds)→bindC kindOf binds m x=m x
 | [],_,_=>rfl
 | (n,v)::r,m,h=>by
  unfold bindC
  rw [bindC_out fun w hw=>h w (List.mem_cons_of_mem _ hw)]
  split
  ·rfl
  ·have:x≠n:=by rintro rfl; exact h v List.mem_cons_self
   simp [this]
theorem bindL_get {kindOf:Str→Option NameKind}{x:Str}{v:Value}:∀ {P:List Str}{vs:List Value}{i:Nat}{m:Str→Option Value},P.Nodup→P[i]?=some x→vs[i]?=some v→kindOf x=some .local →
  bindL kindOf (P.zip vs) m x=some v
 | [],_,_,_,_,h,_,_=>by simp at h
 | _::_,[],_,_,_,_,h,_=>by simp at h
 | p::P,w::vs,0,m,nd,h1,h2,hk=>by
  simp at h1 h2; subst h1; subst h2
  show bindL kindOf ((p,w)::P.zip vs) m p=_
  unfold bindL
  rw [bindL_out fun v hv=>(List.nodup_cons.mp nd).1 (List.of_mem_zip hv).1,if_pos hk]
  simp
 | p::P,w::vs,i+1,m,nd,h1,h2,hk=>by
  show bindL kindOf ((p,w)::P.zip vs) m x=_
  unfold bindL
  exact bindL_get (i:=i) (List.nodup_cons.mp nd).2 (by simpa using h1) (by simpa using h2) hk
theorem bindC_get {kindOf:Str→Option NameKind}{x:Str}{v:Value}:∀ {P:List Str}{vs:List Value}{i:Nat}{m:Str→Option Value},P.Nodup→P[i]?=some x→vs[i]?=some v→kindOf x≠some .local →
  bindC kindOf (P.zip vs) m x=some v
 | [],_,_,_,_,h,_,_=>by simp at h
 | _::_,[],_,_,_,_,h,_=>by simp at h
 | p::P,w::vs,0,m,nd,h1,h2,hk=>by
  simp at h1 h2; subst h1; subst h2
  show bindC kindOf ((p,w)::P.zip vs) m p=_
  unfold bindC
  rw [bindC_out fun v hv=>(List.nodup_cons.mp nd).1 (List.of_mem_zip hv).1,if_neg hk]
  simp
 | p::P,w::vs,i+1,m,nd,h1,h2,hk=>by
  show bindC kindOf ((p,w)::P.zip vs) m x=_
  unfold bindC
  exact bindC_get (i:=i) (List.nodup_cons.mp nd).2 (by simpa using h1) (by simpa using h2) hk
noncomputable def start (N:List Str) (vs:List V):St:=vs.map some++List.replicate (N.length - vs.length) none
noncomputable def cxOf (CX:CXT) (P:Program) (w:World) (K:W.Frag) (mg:Str→Option Value) (base:Heap) (N:List Str) (qual:Str) (scope:Scope) (f:Addr) (cd:Value) (A:Around) (outer:List Env) (s:Shared) (H:Hp) (E:XK):Cx where
 prog:=P
 w:=w
 K:=K
 mg:=mg
 base:=base
 A:=A.deeper (envOfC qual scope s.heap.objs.size f cd)
 N:=N
 s₀:=s
 H₀:=H
 env:=envOfC qual scope s.heap.objs.size f cd
 outer:=outer
 stack:=envOfC qual scope s.heap.objs.size f cd::outer
 ex:=[]
 calm:=true
 fn:=fun _=>true
 pn:=[]
 xe:=fun e s'=>wpAny (model P w) (A.deeper (envOfC qual scope s.heap.objs.size f cd)) (leaving (envOfC qual scope s.heap.objs.size f cd) e) (fun _ s''=>CX outer H s E e s'') (fun e' s''=>CX outer H s E e' s'') s'
theorem cell_has {sc:Scope}{n:Nat}{x:Str} (h:sc.names.lookup x=some .cell):∃ c,(cellsFrom n sc.names []).lookup x=some c:=by
 have q:=W.cellsFrom_some sc.names n [] (.inl h)
 exact Option.isSome_iff_exists.mp q
theorem inv_start {CX:CXT}{P:Program}{w:World}{K:W.Frag}{mg:Str→Option Value}{base:Heap}{N ps:List Str}{qual:Str}{scope:Scope}{f:Addr}{cd:Value}{A:Around}{outer:List Env}{s s1:Shared}{H:Hp}{E:XK}{us:List Value}{vs:List V}
  (S:FnScope N ps scope) (hd:A.handled=none) (e0:Env0 P w K mg base A outer s H) (hl:vs.length=ps.length) (r:Vals vs us)
  (x:InCallC s s.heap.objs.size (bindL (envOfC qual scope s.heap.objs.size f cd).kindOf (ps.zip us) fun _=>none) (cellsFrom (s.heap.objs.size+1) scope.names []) (bindC (envOfC qual scope s.heap.objs.size f cd).kindOf (ps.zip us) fun _=>none) s1) :
  Inv (cxOf CX P w K mg base N qual scope f cd A outer s H E) [] (start N vs) H s1:=by
 have hpl:ps.length≤N.length:=by have:=congrArg List.length S.pre; rw [List.length_take] at this; omega
 obtain ⟨h1,tk,rfl,hk⟩:=x.done
 have noA:∀ b:Addr,b∉(cxOf CX P w K mg base N qual scope f cd A outer s H E).ex:=fun b z=>absurd (show b∈([]:List Addr) from z) (by simp)
 refine ⟨⟨e0.mod,S.kind,rfl,rfl,Nat.le_refl _,fun y z c h1 h2=>?_,fun y hy=>?_,fun y c _ h=>?_,fun _=>hd,Around.frames_deeper e0.frames,.inr ⟨rfl,rfl⟩,fun b z=>absurd z (noA b),e0.bs,e0.bsz,fun b _ _=>noA b,fun b z=>absurd z (noA b),e0.funs,e0.frf⟩,
  rfl,e0.bare,Un.kept hk,⟨_,x.toInCall.ns,fun i y v h1 h2 h3=>?_⟩,fun y c h=>⟨_,x.cell y c h⟩,e0.hok.fresh (Nat.le_refl _),fun y c h=>?_,fun p hp=>absurd (show p∈([]:List (Addr × Obj)) from hp) (by simp),e0.hok.kept hk,?_⟩
 ·exact name_of_addr x.apart (PySem.mem_of_lookup h1) (PySem.mem_of_lookup h2)
 ·have hy:scope.names.lookup y=some .cell∨scope.names.lookup y=some .free:=hy
  rcases hy with hy | hy
  ·exact cell_has hy
  ·exact absurd rfl (S.nofree _ (PySem.mem_of_lookup hy))
 ·exact Nat.le_of_lt (x.above y c (PySem.mem_of_lookup h))
 ·have hi:i<vs.length:=by
   unfold start at h2
   by_cases hi:i<vs.length
   ·exact hi
   ·rw [List.getElem?_append_right (by simpa using hi)] at h2
    rw [List.getElem?_replicate] at h2
    split at h2 <;> cases h2
  have ha:vs[i]?=some v:=by
   unfold start at h2
   rw [List.getElem?_append_left (by simpa using hi),List.getElem?_map] at h2
   cases e:vs[i]? with
   | none=>rw [e] at h2; cases h2
   | some a=>rw [e] at h2; cases h2; rfl
  obtain ⟨u,hu,rv⟩:=r.get ha
  have hp:ps[i]?=some y:=by
   rw [← S.pre,List.getElem?_take_of_lt (by omega)]; exact h1
  have ndP:ps.Nodup:=by rw [← S.pre]; exact S.nd.sublist (List.take_sublist _ _)
  refine ⟨u,rv,?_⟩
  rcases S.par y (List.mem_of_getElem? hp) with k | k
  ·exact .inl ⟨k,bindL_get ndP hp hu k⟩
  ·obtain ⟨c,e⟩:=cell_has (n:=s.heap.objs.size+1) k
   refine .inr ⟨.inl k,c,e,?_⟩
   have q:=x.cell y c e
   rw [bindC_get ndP hp hu (by show scope.names.lookup y≠_; rw [k]; decide)] at q
   exact q
 ·exact e0.hok.fresh (Nat.le_of_lt (x.above y c (PySem.mem_of_lookup h)))
 ·unfold start
  show _=N.length
  rw [List.length_append,List.length_map,List.length_replicate]
  omega
theorem fn_of {CX:CXT}{P:Program}{w:World}{K:W.Frag}{mg:Str→Option Value}{base:Heap}{k:Nat}{f:Addr}{name qual:Str}{params:Arguments}{body:List Stmt}{scope:Scope}{dV kV doc pm cdv ct oc:Value}{an od:Option Addr}
  {osl:Array (Option Value)}{N ps:List Str}{sp:Sp} (lk:K.lookup f=some ⟨oc,od,.func (W.fnOf name qual params body scope dV kV doc pm an cdv ct),osl⟩) (hcd:W.codeIn K cdv qual=true) (S:FnScope N ps scope)
  (len:∀ vs H Q E,sp vs H Q E→vs.length=ps.length)
  (hbody:∀ (A:Around) (outer:List Env) (s:Shared) (H:Hp) (vs:List V) (Q:VK) (E:XK),Room k (A.deeper (envOfC qual scope s.heap.objs.size f cdv))→sp vs H Q E →
   ∃ t,PSs (cxOf CX P w K mg base N qual scope f cdv A outer s H E) body t∧t { nx:=fun _ H'=>Q .non H',rt:=Q } (start N vs) H) :
  FnOk P w K mg base CX (k+1) f (W.fnOf name qual params body scope dV kV doc pm an cdv ct) ps sp:=by
 refine ⟨len,fun A outer s H args us vs Q E hr e0 hb r hsp=>?_⟩
 have hl:=len _ _ _ _ hsp
 have KX:K.In s.heap:=e0.mod.kin.keeps fun b o e=>(e0.bs b o e).1
 have lim:s.heap.NoLimit:=e0.mod.nolimit.keeps fun b o e=>(e0.bs b o e).1
 have hkind:∀ y∈ps.zip us,scope.names.lookup y.1=some .local∨(scope.names.lookup y.1=some .cell∧((cellsFrom (s.heap.objs.size+1) scope.names []).lookup y.1).isSome=true):=fun ⟨n,v⟩ hy=>by
  rcases S.par n (List.of_mem_zip hy).1 with q | q
  ·exact .inl q
  ·exact .inr ⟨q,W.cellsFrom_some _ _ _ (.inl q)⟩
 refine codeAny_call_function hr.depth (KX _ _ lk) rfl S.co S.gen rfl (W.codeRec_of KX hcd) (hb _ _ _ _ ?_)
 refine wpAny_newFunctionEnv_cells S.kind hkind fun env he s1 x=>?_
 subst he
 refine ⟨lim.keeps x.toInCall.keep,codeAny_func ?_⟩
 obtain ⟨t,ht,hq⟩:=hbody A outer s H vs Q E (hr.deeper _) hsp
 have I:Inv (cxOf CX P w K mg base N qual scope f cdv A outer s H E) [] (start N vs) H s1:=inv_start S hr.hd e0 hl r x
 refine wpAny_mono (ht [] s1 (start N vs) H _ I hq) (fun fl s' hs=>?_) fun e s' hs=>hs
 have fin:∀ {σ':St}{H':Hp}{v:V}{u:Value},Inv (cxOf CX P w K mg base N qual scope f cdv A outer s H E) [] σ' H' s'→RelV v u→Q v H'→CE outer P w H s Q u s' :=
  fun {σ' H' v u} J rv q=>⟨v,H',J.os,J.bare,J.base,J.hok,rv,q⟩
 cases fl with
 | ret u =>
  obtain ⟨v,σ',H',J,rv,q⟩:=hs
  exact fin J rv q
 | next =>
  obtain ⟨σ',H',J,q⟩:=hs
  exact fin (v:=V.non) (u:=Value.none) J rfl q
 | brk =>
  obtain ⟨_,_,_,q⟩:=hs
  exact False.elim q
 | cont =>
  obtain ⟨_,_,_,q⟩:=hs
  exact False.elim q
section
variable {X:Cx}{x:Str}{p pos:Pos}{e:Expr}{es:List Expr}{t:TA}{id T:String}{r:List V→Hp→VK→Prop}
noncomputable def tCB (r:List V→Hp→VK→Prop) (t:TA):TE:=fun σ H Q=>t σ H fun vs H1=>r vs H1 Q
theorem pe_callB (hc:CallR X (.builtin id) r) (hg:Gl X x) (hm:X.mg x=none) (hv:bootBuiltins x=some (.builtin id)) (ha:PA X (e::es) t) (hn:x ≠ "__name__":=by decide) (hdb:(x == ("__debug__":Str))=false:=by decide)
  (he:starEach (e::es) X.env=(false,eval e X.env)::starEach es X.env:=by rfl) (hpl:(backTo pos (starEach es X.env)).any (·.1)=false:=by rfl):PE X (.Call (.Name x p) (e::es) [] pos) (tCB r t):=by
 intro pins s σ H Q I h
 refine wpAny_Call_Name_kw (ld_blt I hg hm hv ?_ hn hdb)
 exact PyProof.Rows.callWith_builtin1 (thn (ha pos pins s σ H _ I h) fun us s1 ⟨vs,H1,I1,r1,q1⟩=>hc pins s1 σ H1 vs us Q I1 r1 q1) he hpl
theorem pe_callTy (hc:CallR X (.type T) r) (hg:Gl X x) (hm:X.mg x=none) (hv:bootBuiltins x=some (.type T)) (ha:PA X (e::es) t) (hn:x ≠ "__name__":=by decide) (hdb:(x == ("__debug__":Str))=false:=by decide)
  (he:starEach (e::es) X.env=(false,eval e X.env)::starEach es X.env:=by rfl) (hpl:(backTo pos (starEach es X.env)).any (·.1)=false:=by rfl):PE X (.Call (.Name x p) (e::es) [] pos) (tCB r t):=by
 intro pins s σ H Q I h
 refine wpAny_Call_Name_kw (ld_blt I hg hm hv ?_ hn hdb)
 exact PyProof.Rows.callWith_type1 (thn (ha pos pins s σ H _ I h) fun us s1 ⟨vs,H1,I1,r1,q1⟩=>hc pins s1 σ H1 vs us Q I1 r1 q1) he hpl
end
end L2
namespace HT
open PySem PyProof.Rows
section
variable {prog:Program}{w:World}{A:Around}{E:Value→Shared→Prop}{s:Shared}
theorem cat_tup {t b:Addr}{vs ws:List Value}{Q:Value→Shared→Prop} (ht:IsTup s.heap t vs.toArray) (hb:IsTup s.heap b ws.toArray) (hv:vs≠[])
  (h1:ws=[]→Q (.ref t) s) (h2:ws≠[]→Q (.ref s.heap.objs.size) { s with heap:=s.heap.push { cls:=.type "tuple",data:=.seq (vs++ws).toArray } })
  (hsz:vs.length+ws.length≤sizeLine):wpAny (model prog w) A (binaryOp .Add (.ref t) (.ref b)) Q E s:=by
 obtain ⟨⟨cls,dd,data,sl⟩,ho,hc,n,hd⟩:=id ht
 obtain ⟨⟨cls2,dd2,data2,sl2⟩,ho2,hc2,n2,hd2⟩:=id hb
 simp only at hc hd hc2 hd2
 subst hc hd hc2 hd2
 have e:vs.toArray++ws.toArray=(vs++ws).toArray:=by simp
 by_cases hw:ws=[]
 ·exact concat_meets ⟨_,ho,rfl⟩ ⟨_,ho2,rfl⟩ noFill_tuple_add seq_tuple_add PySem.F.slot_tuple_add PySem.F.entry_tuple_add (PySem.F.args_tuple_add_2 _ _)
   (tuple_addW1 t b vs.toArray ws.toArray n n2 dd dd2 sl sl2 (by simpa using hv) (by simp [hw])) ⟨ho,ho2,h1 hw⟩
 ·refine concat_meets ⟨_,ho,rfl⟩ ⟨_,ho2,rfl⟩ noFill_tuple_add seq_tuple_add PySem.F.slot_tuple_add PySem.F.entry_tuple_add (PySem.F.args_tuple_add_2 _ _)
   (tuple_addW2 t b vs.toArray ws.toArray n n2 dd dd2 sl sl2 (by simpa using hv) (by simpa using hw) (by rw [List.size_toArray,List.size_toArray]; exact hsz)) ⟨ho,ho2,?_⟩
  rw [e]
  exact h2 hw
noncomputable def sIx (n d:Nat):Option Int→Nat
 | none=>d
 | some v=>if v<0 then (v+(n:Int)).toNat else min v.toNat n
theorem sIx_none (n d:Nat):sIx n d none=d:=rfl
theorem sIx_nat (n d k:Nat):sIx n d (some (k:Int))=min k n:=by
 show (if (k:Int)<0 then ((k:Int)+(n:Int)).toNat else min (k:Int).toNat n)=min k n
 rw [if_neg (by omega),Int.toNat_natCast]
theorem sIx_le (n d:Nat) (hd:d≤n) (o:Option Int):sIx n d o≤n:=by
 cases o with
 | none=>exact hd
 | some v =>
  show (if v<0 then (v+(n:Int)).toNat else min v.toNat n)≤n
  by_cases hv:v<0
  ·rw [if_pos hv]; omega
  ·rw [if_neg hv]; exact Nat.min_le_right _ _
theorem clip_eq (v:Int) (n d:Nat):(if v<0 then max (v+(n:Int)) 0 else min v (n:Int))=((sIx n d (some v):Nat):Int):=by
 show (if v<0 then max (v+(n:Int)) 0 else min v (n:Int))=(((if v<0 then (v+(n:Int)).toNat else min v.toNat n):Nat):Int)
 by_cases hv:v<0
 ·simp only [if_pos hv]; omega
 ·simp only [if_neg hv]; omega
theorem adjust_gen (lo hi:Option Int) (n:Nat):Builtin.Slice.sliceAdjust lo hi 1 (n:Int)=(((sIx n 0 lo:Nat):Int),((sIx n n hi:Nat):Int)):=by
 have h1:¬ ((1:Int)<0):=by omega
 unfold Builtin.Slice.sliceAdjust
 simp only [h1,if_false]
 refine Prod.ext ?_ ?_
 ·cases lo with
  | none=>rfl
  | some v=>exact clip_eq v n 0
 ·cases hi with
  | none=>rfl
  | some v=>exact clip_eq v n n
theorem places_gen (i j:Nat):Builtin.Slice.slicePlaces (i:Int) (j:Int) 1=j - i:=by
 unfold Builtin.Slice.slicePlaces
 have h1:(1:Int)>0:=by omega
 simp only [h1,if_true,Int.ediv_one]
 split <;> omega
theorem slicePart_ {v:Value}{o:Option Int}{Q:Option Int→Shared→Prop} (p:IsPart v o) (h:Q o s):wpAny (model prog w) A (Builtin.Slice.slicePartIndex v) Q E s:=by
 cases p with
 | none=>exact slicePart_none h
 | int i t=>exact slicePart_int h
theorem sliceApplied_gen {sl:Addr}{vl vu:Value}{lo hi:Option Int}{n:Nat}{Q:Int × Int × Nat→Shared→Prop} (hs:s.heap.IsSliceOf sl vl vu .none) (pl:IsPart vl lo) (pu:IsPart vu hi)
  (h:Q (((sIx n 0 lo:Nat):Int),1,sIx n n hi - sIx n 0 lo) s):wpAny (model prog w) A (Builtin.Slice.sliceApplied (.ref sl) (pure (n:Int))) Q E s:=by
 obtain ⟨os,hos,hcs,hds⟩:=id hs
 unfold Builtin.Slice.sliceApplied Builtin.Slice.sliceFields
 refine wpAny_bind (wpAny_bind (wpAny_field hos hds (x:=vl) rfl (wpAny_bind (wpAny_field hos hds (x:=vu) rfl (wpAny_bind (wpAny_field hos hds (x:=.none) rfl (wpAny_pure ?_)))))))
 refine wpAny_bind (slicePart_none ?_)
 show wpAny _ _ (if ((1:Int) == 0)=true then _ else _) _ _ s
 rw [if_neg (by decide)]
 refine wpAny_bind (slicePart_ pl (wpAny_bind (slicePart_ pu (wpAny_bind (wpAny_pure ?_)))))
 show wpAny _ _ (match Builtin.Slice.sliceAdjust lo hi 1 (n:Int) with | (lo,hi)=>pure (lo,(1:Int),Builtin.Slice.slicePlaces lo hi 1)) _ _ s
 rw [adjust_gen lo hi n]
 show wpAny _ _ (pure (((sIx n 0 lo:Nat):Int),(1:Int),Builtin.Slice.slicePlaces ((sIx n 0 lo:Nat):Int) ((sIx n n hi:Nat):Int) 1)) _ _ s
 rw [places_gen]
 exact wpAny_pure h
theorem pick_gen (xs:Array Value) (i k:Nat):((List.range k).filterMap fun (m:Nat)=>xs[((i:Int)+(m:Int)*1).toNat]?).toArray=((xs.toList.drop i).take k).toArray:=by
 have e:(fun (m:Nat)=>xs[((i:Int)+(m:Int)*1).toNat]?)=fun m=>xs[i+m]?:=by
  funext m
  have:((i:Int)+(m:Int)*1).toNat=i+m:=by omega
  rw [this]
 rw [e]
 have:=pick_run xs i k
 rw [List.filterMap_map] at this
 have e2:((fun x=>xs[x]?)∘fun x=>i+x)=fun m=>xs[i+m]?:=rfl
 rw [e2] at this
 rw [this]
theorem getItem_tuple_cut {t sl:Addr}{items:Array Value}{vl vu:Value}{lo hi:Option Int}{Q:Value→Shared→Prop} (ht:IsTup s.heap t items) (hs:s.heap.IsSliceOf sl vl vu .none) (pl:IsPart vl lo) (pu:IsPart vu hi)
  (hw:¬ (sIx items.size 0 lo=0∧sIx items.size items.size hi=items.size))
  (h:Q (.ref s.heap.objs.size) { s with heap:=s.heap.push { cls:=.type "tuple",data:=.seq ((items.toList.drop (sIx items.size 0 lo)).take (sIx items.size items.size hi - sIx items.size 0 lo)).toArray } })
  (hsz:items.size≤sizeLine):wpAny (model prog w) A (getItem (.ref t) (.ref sl)) Q E s:=by
 have htake:sizeOk (.seq ((items.toList.drop (sIx items.size 0 lo)).take (sIx items.size items.size hi - sIx items.size 0 lo)).toArray):=by
  show ((items.toList.drop (sIx items.size 0 lo)).take (sIx items.size items.size hi - sIx items.size 0 lo)).toArray.size≤sizeLine
  rw [List.size_toArray,List.length_take,List.length_drop,Array.length_toList]
  omega
 have hj:sIx items.size items.size hi≤items.size:=sIx_le _ _ (Nat.le_refl _) hi
 obtain ⟨os,hos,hcs,hds⟩:=id hs
 have hTs:s.TypeIs (.ref sl) "slice":=⟨os,hos,hcs⟩
 unfold getItem
 try with_reducible refine wpAny_holding ?_
 first | refine wpAny_bind (wpAny_pure ?_) | skip
 refine wpAny_bind (wpAny_sequenceKey ht.typeIs (by decide) ?_)
 refine wpAny_bind (wpAny_callSpecial?_slot (name:=Str.ofString "__getitem__") ht.typeIs PyProof.Rows.slot_tuple_getitem
  (wpAny_call_entry PyProof.Rows.slot_tuple_getitem ht.typeIs entry_tuple_getitem ?_ (args_tuple_getitem _ _)))
 show wpAny _ _ (Builtin.Tuple.tupleItemsOf (.ref t) >>= _) _ _ s
 refine wpAny_bind (tupleItemsOf_ ht ?_)
 refine wpAny_bind (wpAny_typeOf hTs ?_)
 rw [if_pos (by decide)]
 refine wpAny_bind (sliceApplied_gen hs pl pu ?_)
 have hno:¬ ((((sIx items.size 0 lo:Nat):Int) == 0&&(1:Int) == 1&&(sIx items.size items.size hi - sIx items.size 0 lo) == items.size)=true):=by
  intro q
  rw [Bool.and_eq_true,Bool.and_eq_true] at q
  have q1:((sIx items.size 0 lo:Nat):Int)=0:=eq_of_beq q.1.1
  have q2:sIx items.size items.size hi - sIx items.size 0 lo=items.size:=eq_of_beq q.2
  exact hw ⟨by omega,by omega⟩
 show wpAny _ _ (if (((sIx items.size 0 lo:Nat):Int) == 0&&(1:Int) == 1&&(sIx items.size items.size hi - sIx items.size 0 lo) == items.size)=true then _ else _) _ _ s
 rw [if_neg hno,pick_gen]
 first
  | exact wpAny_bind (m:=Builtin.Tuple.tupleExact _) (wpAny_newObj_type (wpAny_pure ⟨_,rfl,wpAny_pure h⟩) htake)
  | exact wpAny_bind (m:=Builtin.Tuple.tupleExact _) (wpAny_newObj_type (wpAny_bind (wpAny_pure (wpAny_pure ⟨_,rfl,wpAny_pure h⟩))) htake)
  | exact wpAny_bind (wpAny_bind (m:=Builtin.Tuple.tupleExact _) (wpAny_newObj_type (wpAny_pure (wpAny_pure ⟨_,rfl,wpAny_pure h⟩)) htake))
  | exact wpAny_bind (wpAny_bind (m:=Builtin.Tuple.tupleExact _) (wpAny_newObj_type (wpAny_pure ⟨_,rfl,wpAny_pure h⟩) htake))
end
end HT
namespace L2
open PySem PySem.Spec PyProof.Rows
noncomputable abbrev TO:=St→Hp→(Option Int→Hp→Prop)→Prop
def PO (X:Cx) (e:Option Expr) (t:TO):Prop :=
 ∀ (pins:List (Addr × Obj)) (s:Shared) (σ:St) (H:Hp) (Q:Option Int→Hp→Prop),Inv X pins σ H s→t σ H Q →
  wpAny (model X.prog X.w) X.A (evalPart e X.env) (fun u s'=>∃ o H',Inv X pins σ H' s'∧IsPart u o∧Q o H') X.xe s
noncomputable def tNoPart:TO:=fun _ H Q=>Q none H
noncomputable def tPart (t:TE):TO:=fun σ H Q=>t σ H fun x H1=>∃ i,x=.int i∧Q (some i) H1
section
variable {X:Cx}{e:Expr}{te:TE}{lo hi:Option Expr}{tl th:TO}{pos p2:Pos}
theorem po_none:PO X none tNoPart:=by
 intro pins s σ H Q I h
 rw [evalPart_none]
 exact wpAny_pure ⟨none,H,I,.none,h⟩
theorem po_some (h:PE X e te):PO X (some e) (tPart te):=by
 intro pins s σ H Q I hw
 rw [evalPart_some]
 refine thn (h pins s σ H _ I hw) fun u s1 ⟨x,H1,I1,r1,q1⟩=>?_
 obtain ⟨i,rfl,q⟩:=q1
 obtain ⟨t,rfl⟩:=r1
 exact ⟨some i,H1,I1,.int i t,q⟩
def SlR (X:Cx) (r:V→Option Int→Option Int→Hp→VK→Prop):Prop :=
 ∀ (pins:List (Addr × Obj)) (s:Shared) (σ:St) (H:Hp) (x:V) (v vl vu:Value) (lo hi:Option Int) (sl:Addr) (Q:VK),Inv X pins σ H s→RelV x v→s.heap.IsSliceOf sl vl vu .none→IsPart vl lo→IsPart vu hi→r x lo hi H Q →
  ∃ T id,typeLookup (.type T) "__getitem__"=pure (some (.builtin id))∧s.TypeIs v T∧wpAny (model X.prog X.w) X.A (getItem v (.ref sl)) (EP X pins σ Q) X.xe s
noncomputable def tSl (r:V→Option Int→Option Int→Hp→VK→Prop) (te:TE) (tl th:TO):TE:=fun σ H Q=>te σ H fun x H1=>tl σ H1 fun l H2=>th σ H2 fun u H3=>r x l u H3 Q
theorem pe_slice {r:V→Option Int→Option Int→Hp→VK→Prop} (hr:SlR X r) (he:PE X e te) (hl:PO X lo tl) (hu:PO X hi th):PE X (.Subscript e (.Slice lo hi none p2) pos) (tSl r te tl th):=by
 intro pins s σ H Q I h
 refine Subscript_ (thn (he pins s σ H _ I h) fun v s1 ⟨x,H1,I1,r1,q1⟩=>?_)
 refine wpAny_Slice (thn (hl pins s1 σ H1 _ I1 q1) fun vl s2 ⟨l,H2,I2,pl,q2⟩=>thn (hu pins s2 σ H2 _ I2 q2) fun vu s3 ⟨u,H3,I3,pu,q3⟩=>?_)
 rw [evalPart_none]
 refine wpAny_pure ?_
 have I4:Inv X pins σ H3 { s3 with heap:=s3.heap.push { cls:=.type "slice",data:=.fields #[vl,vu,.none] } }:=I3.kept (t':=s3.toks) fun b ob q=>Heap.get?_push_of_some _ q
 obtain ⟨T,id,hT,ht,hg⟩:=hr pins { s3 with heap:=s3.heap.push { cls:=.type "slice",data:=.fields #[vl,vu,.none] } } σ H3 x v vl vu l u s3.heap.objs.size Q I4 r1 (Heap.IsSliceOf.new ..) pl pu q3
 show wpAny (model X.prog X.w) X.A (subscriptTail e (.Slice lo hi none p2) v (.ref s3.heap.objs.size)) (EP X pins σ Q) X.xe { s3 with heap:=s3.heap.push { cls:=.type "slice",data:=.fields #[vl,vu,.none] } }
 exact tail_any (ops:=[.ref s3.heap.objs.size,v]) ht hT hg (by with_unfolding_all rfl)
noncomputable def cutV (xs:List V) (lo hi:Option Int):List V:=(xs.drop (HT.sIx xs.length 0 lo)).take (HT.sIx xs.length xs.length hi - HT.sIx xs.length 0 lo)
theorem cutV_length (xs:List V) (lo hi:Option Int):(cutV xs lo hi).length≤xs.length:=by
 unfold cutV
 rw [List.length_take,List.length_drop]
 omega
noncomputable def rSlT (K:W.Frag):V→Option Int→Option Int→Hp→VK→Prop:=fun x lo hi H Q=>∃ a xs,x=.ref a∧SqT K H a xs ∧
 ¬ (HT.sIx xs.length 0 lo=0∧HT.sIx xs.length xs.length hi=xs.length)∧∀ p,H p=none→Q (.ref p) (upd H p (.tup (cutV xs lo hi)))
theorem sl_tup:SlR X (rSlT X.K):=by
 intro pins s σ H x v vl vu lo hi sl Q I rx hs pl pu h
 obtain ⟨a,xs,rfl,hx,hw,q⟩:=h
 cases rx
 obtain ⟨its,r,ht,hz⟩:=I.tuple hx
 have hlen:its.toArray.size=xs.length:=by rw [List.size_toArray]; exact r.length.symm
 refine ⟨"tuple",_,PyProof.Rows.slot_tuple_getitem.lookup,ht.typeIs,?_⟩
 refine HT.getItem_tuple_cut ht hs pl pu (by rw [hlen]; exact hw) ?_ (by rw [hlen]; exact hz)
 rw [hlen]
 refine ⟨.ref s.heap.objs.size,_,I.laid (t':=s.toks) (o:=.tup (cutV xs lo hi)) (fun b ob q=>Heap.get?_push_of_some _ q) (Nat.le_refl _) ?_,rfl,q _ (I.hok.fresh (Nat.le_refl _))⟩
 exact ⟨Nat.le_trans (cutV_length xs lo hi) hz,_,(r.drop (HT.sIx xs.length 0 lo)).take (HT.sIx xs.length xs.length hi - HT.sIx xs.length 0 lo),IsTup.new _ _⟩
noncomputable def rCatT (K:W.Frag):R2:=fun x y H Q=>∃ a b xs ys,x=.ref a∧y=.ref b∧SqT K H a xs∧SqT K H b ys∧xs≠[]∧xs.length+ys.length≤sizeLine ∧
 (ys=[]→Q (.ref a) H)∧(ys≠[]→∀ p,H p=none→Q (.ref p) (upd H p (.tup (xs++ys))))
theorem Vals.nil_iff {xs:List V}{us:List Value} (r:Vals xs us):us=[]↔xs=[]:=by
 cases r with
 | nil=>simp
 | cons _ _=>simp
theorem op_catT:OpR X (binaryOp .Add) (rCatT X.K):=by
 intro pins s σ H x y v u Q I rx ry h
 obtain ⟨a,b,xs,ys,rfl,rfl,ha,hb,hx,hz,q1,q2⟩:=h
 cases rx
 cases ry
 obtain ⟨its,r1,p1,_⟩:=I.tuple ha
 obtain ⟨its2,r2,p2,_⟩:=I.tuple hb
 refine HT.cat_tup p1 p2 (fun z=>hx (r1.nil_iff.mp z)) (fun z=>⟨.ref a,H,I,rfl,q1 (r2.nil_iff.mp z)⟩) (fun z=>?_) (by rw [← r1.length,← r2.length]; exact hz)
 refine ⟨.ref s.heap.objs.size,_,I.laid (t':=s.toks) (o:=.tup (xs++ys)) (fun b ob q=>Heap.get?_push_of_some _ q) (Nat.le_refl _) ?_,rfl,q2 (fun w=>z (r2.nil_iff.mpr w)) _ (I.hok.fresh (Nat.le_refl _))⟩
 exact ⟨by rw [List.length_append]; exact hz,_,r1.append r2,IsTup.new _ _⟩
end
noncomputable def ixN (n:Nat) (i:Int):Option Nat:=if 0≤i then (if i<n then some i.toNat else none) else if -(n:Int)≤i then some (i+n).toNat else none
noncomputable def atI {α:Type} (xs:List α) (i:Int):Option α:=(ixN xs.length i).bind fun j=>xs[j]?
theorem ixN_seq {n:Nat}{i:Int}{j:Nat} (h:ixN n i=some j):seqIndex? i n=some j∧j<n∧-(n:Int)≤i∧i<n:=by
 unfold ixN at h
 by_cases h0:0≤i
 ·rw [if_pos h0] at h
  by_cases h1:i<n
  ·rw [if_pos h1] at h
   have e:i.toNat=j:=Option.some.inj h
   exact ⟨by rw [seqIndex_of h0 h1,e],by omega,by omega,h1⟩
  ·rw [if_neg h1] at h; cases h
 ·rw [if_neg h0] at h
  by_cases h1:-(n:Int)≤i
  ·rw [if_pos h1] at h
   have e:(i+n).toNat=j:=Option.some.inj h
   exact ⟨by rw [seqIndex_neg (by omega) h1,e],by omega,h1,by omega⟩
  ·rw [if_neg h1] at h; cases h
theorem atI_get {α:Type}{xs:List α}{i:Int}{v:α} (h:atI xs i=some v):∃ j,seqIndex? i xs.length=some j∧xs[j]?=some v∧j<xs.length∧-(xs.length:Int)≤i∧i<xs.length:=by
 unfold atI at h
 cases e:ixN xs.length i with
 | none=>rw [e] at h; cases h
 | some j =>
  rw [e] at h
  obtain ⟨h1,h2,h3,h4⟩:=ixN_seq e
  exact ⟨j,h1,h,h2,h3,h4⟩
theorem atI_nat {α:Type}{xs:List α}{j:Nat}{v:α} (h:xs[j]?=some v):atI xs (j:Int)=some v:=by
 have hj:j<xs.length:=(List.getElem?_eq_some_iff.mp h).1
 have e:ixN xs.length (j:Int)=some j:=by
  unfold ixN
  rw [if_pos (by omega),if_pos (by omega)]; simp
 unfold atI; rw [e]; exact h
def PlainIx (b:Expr):Prop:=∀ o i,subscripted b false o i=operate [o,i] (getItem o i)
def IxR (X:Cx) (r:R2):Prop :=
 ∀ (value slice:Expr) (pins:List (Addr × Obj)) (s:Shared) (σ:St) (H:Hp) (x y:V) (v u:Value) (Q:VK),Inv X pins σ H s→RelV x v→RelV y u→r x y H Q →
  subscripted slice false v u=operate [v,u] (getItem v u)→wpAny (model X.prog X.w) X.A (subscriptTail value slice v u) (EP X pins σ Q) X.xe s
def MtR (X:Cx) (id:String) (r:V→List V→Hp→VK→Prop):Prop :=
 ∀ (pins:List (Addr × Obj)) (s:Shared) (σ:St) (H:Hp) (x:V) (xs:List V) (v:Value) (us:List Value) (Q:VK),Inv X pins σ H s→RelV x v→Vals xs us→r x xs H Q →
  wpAny (model X.prog X.w) X.A (call (.builtin id) (v::us)) (EP X pins σ Q) X.xe s
section
variable {X:Cx}{a b:Expr}{ta tb:TE}{pos:Pos}
theorem pe_ix {r:R2} (hr:IxR X r) (ha:PE X a ta) (hb:PE X b tb) (hs:PlainIx b):PE X (.Subscript a b pos) (tOp r ta tb):=by
 intro pins s σ H Q I h
 exact Subscript_ (binT ha hb I h fun v u s2 x y H2 I2 rx ry q=>hr a b pins s2 σ H2 x y v u Q I2 rx ry q (hs _ _))
noncomputable def rIxL (K:W.Frag):R2:=fun x y H Q=>∃ p xs i v,x=.ref p∧y=.int i∧SqL K H p xs∧atI xs i=some v∧Q v H
noncomputable def rIxT (K:W.Frag):R2:=fun x y H Q=>∃ p xs i v,x=.ref p∧y=.int i∧SqT K H p xs∧atI xs i=some v∧Q v H
noncomputable def rIxS:R2:=fun x y H Q=>∃ z i c,x=.str z∧y=.int i∧z.length≤sizeLine∧atI z.cps.toList i=some c∧Q (.str ⟨#[c]⟩) H
theorem ix_list:IxR X (rIxL X.K):=by
 intro value slice pins s σ H x y v u Q I rx ry h hs
 obtain ⟨p,xs,i,z,rfl,rfl,hq,he,q⟩:=h
 cases rx
 obtain ⟨t,rfl⟩:=ry
 obtain ⟨its,r,pl,hz⟩:=I.list hq
 obtain ⟨j,h1,h2,h3,h4,h5⟩:=atI_get he
 obtain ⟨w,ew,rw'⟩:=r.get h2
 have hl:=r.length
 have hn:=line63
 have fin:EP X pins σ Q w s:=⟨z,H,I,rw',q⟩
 by_cases h0:0≤i
 ·have hj:i.toNat=j:=by
   rw [seqIndex_of h0 h5] at h1
   exact Option.some.inj h1
  exact item_listR pl.isList h0 (by omega) (by rw [hj]; simpa using ew) fin hs
 ·have hj:(i+(its.toArray.size:Int)).toNat=j:=by
   rw [seqIndex_neg (by omega) h4] at h1
   rw [List.size_toArray,← hl]
   exact Option.some.inj h1
  exact subscriptTail_builtinR (x:=w) pl.isList.typeIs slot_list_getitem.lookup
   (wpAny_getItem_list_neg (Q:=fun r s'=>r=w∧EP X pins σ Q r s') pl.isList (by omega) (by rw [List.size_toArray] <;> omega) (by omega) (by rw [hj]; simpa using ew) ⟨rfl,fin⟩) hs
theorem ix_tup:IxR X (rIxT X.K):=by
 intro value slice pins s σ H x y v u Q I rx ry h hs
 obtain ⟨p,xs,i,z,rfl,rfl,hq,he,q⟩:=h
 cases rx
 obtain ⟨t,rfl⟩:=ry
 obtain ⟨its,r,pl,hz⟩:=I.tuple hq
 obtain ⟨j,h1,h2,h3,h4,h5⟩:=atI_get he
 obtain ⟨w,ew,rw'⟩:=r.get h2
 have hl:=r.length
 have hn:=line63
 have fin:EP X pins σ Q w s:=⟨z,H,I,rw',q⟩
 exact subscriptTail_builtinR (x:=w) pl.typeIs slot_tuple_getitem.lookup
  (getItem_tuple (j:=j) (Q:=fun r s'=>r=w∧EP X pins σ Q r s') pl (by omega) (by omega) (by rw [List.size_toArray,← hl]; exact h1) (by simpa using ew) ⟨rfl,fin⟩) hs
theorem ix_str:IxR X rIxS:=by
 intro value slice pins s σ H x y v u Q I rx ry h hs
 obtain ⟨z,i,c,rfl,rfl,hz,he,q⟩:=h
 obtain ⟨t,rfl⟩:=rx
 obtain ⟨t',rfl⟩:=ry
 obtain ⟨j,h1,h2,h3,h4,h5⟩:=atI_get he
 have hl:z.cps.toList.length=z.length:=by simp [Str.length]
 rw [hl] at h1 h4 h5
 have hn:=line63
 exact tail_any (typeIs_str s z t) slot_str_getitem.lookup (getItem_str (c:=c) (by
  have e1:decide (i < -(2 ^ 63:Int))=false:=decide_eq_false (by omega)
  have e2:decide (i≥2 ^ 63)=false:=decide_eq_false (by omega)
  rw [e1,e2,Bool.or_false]) (by rw [h1]; simpa using h2) ⟨.str ⟨#[c]⟩,H,I.tok _,⟨_,rfl⟩,q⟩) hs
theorem mapSeq_set (its:List Value) (n j:Nat) (u:Value):Obj.mapSeq (·.setIfInBounds j u) { cls:=.type "list",data:=.seq its.toArray n }={ cls:=.type "list",data:=.seq (its.set j u).toArray n }:=by
 simp [Obj.mapSeq]
theorem Inv.lst {pins:List (Addr × Obj)}{σ:St}{H:Hp}{s:Shared}{p:Addr}{xs:List V} (I:Inv X pins σ H s) (h:H p=some (.lst xs)) :
  ∃ (its:List Value) (n:Nat),Vals xs its∧s.heap.get? p=some { cls:=.type "list",data:=.seq its.toArray n }∧xs.length≤sizeLine:=by
 obtain ⟨z,its,n,r,e⟩:=I.hok p _ h
 exact ⟨its,n,r,e,z⟩
theorem Inv.lstUpd {pins:List (Addr × Obj)}{σ:St}{H:Hp}{s:Shared}{p:Addr}{xs ys:List V}{its its':List Value}{n n':Nat}{f:Obj→Obj} (I:Inv X pins σ H s) (h:H p=some (.lst xs))
  (ho:s.heap.get? p=some { cls:=.type "list",data:=.seq its.toArray n }) (hf:f { cls:=.type "list",data:=.seq its.toArray n }={ cls:=.type "list",data:=.seq its'.toArray n' }) (r:Vals ys its') (hz:ys.length≤sizeLine) (t:Nat) :
  Inv X pins σ (upd H p (.lst ys)) { s with heap:=s.heap.update p f,toks:=t }:=by
 have e:(s.heap.update p f).get? p=some { cls:=.type "list",data:=.seq its'.toArray n' }:=by
  rw [Heap.get?_update_self f ho (by rw [hf] <;> rfl),hf]
 refine I.write (x:=p) (e:=p) (by rw [h]; trivial) (.inl rfl) (fun b u hb q=>(Heap.get?_update_other _ _ (Ne.symm hb)).trans q) ⟨_,e⟩ ?_
 exact ⟨hz,its',n',r,e⟩
noncomputable def rSetL:V→V→V→Hp→(Hp→Prop)→Prop:=fun o i v H Q=>∃ p xs k j,o=.ref p∧i=.int k∧H p=some (.lst xs)∧ixN xs.length k=some j∧Q (upd H p (.lst (xs.set j v)))
theorem set_list:PSet X rSetL:=by
 intro pins s σ H o i v ov iv u Q I ro ri rv h
 obtain ⟨p,xs,k,j,rfl,rfl,hp,hj,q⟩:=h
 cases ro
 obtain ⟨t,rfl⟩:=ri
 obtain ⟨its,n,r,ho,hz⟩:=I.lst hp
 obtain ⟨h1,h2,h3,h4⟩:=ixN_seq hj
 have hl:=r.length
 have hn:=line63
 have I':Inv X pins σ (upd H p (.lst (xs.set j v))) { s with heap:=s.heap.update p (Obj.mapSeq (·.setIfInBounds j u)) } :=
  I.lstUpd hp ho (mapSeq_set its n j u) (r.set rv j) (by rw [List.length_set]; exact hz) s.toks
 by_cases h0:0≤k
 ·have hk:k.toNat=j:=by
   rw [seqIndex_of h0 h4] at h1
   exact Option.some.inj h1
  exact W.ki_setAt ho h0 (by omega) (by rw [List.size_toArray,← hl]; exact h4) (by rw [hk]; exact ⟨_,I',q⟩)
 ·have hk:(k+(its.toArray.size:Int)).toNat=j:=by
   rw [seqIndex_neg (by omega) h3] at h1
   rw [List.size_toArray,← hl]
   exact Option.some.inj h1
  exact W.ki_setBack ho (by omega) (by rw [List.size_toArray,← hl]; exact h3) (by omega) (by rw [hk]; exact ⟨_,I',q⟩)
theorem slice_bounds (lo hi:Option Int) (n:Nat):(sliceBounds lo hi none n).1=((HT.sIx n 0 lo:Nat):Int)∧(sliceBounds lo hi none n).2.1=((HT.sIx n n hi:Nat):Int)∧(sliceBounds lo hi none n).2.2=1:=by
 refine ⟨?_,?_,rfl⟩
 ·cases lo with
  | none=>simp [sliceBounds,HT.sIx]
  | some i =>
   simp only [sliceBounds,HT.sIx,Option.getD_none,show (1:Int)>0 by decide,if_true]
   by_cases h:i<0
   ·simp only [h,if_true] <;> omega
   ·simp only [h,if_false] <;> omega
 ·cases hi with
  | none=>simp [sliceBounds,HT.sIx]
  | some i =>
   simp only [sliceBounds,HT.sIx,Option.getD_none,show (1:Int)>0 by decide,if_true]
   by_cases h:i<0
   ·simp only [h,if_true] <;> omega
   ·simp only [h,if_false] <;> omega
theorem slicePick_cut (its:List Value) (lo hi:Option Int):slicePick its.toArray lo hi none=((its.drop (HT.sIx its.length 0 lo)).take (HT.sIx its.length its.length hi - HT.sIx its.length 0 lo)).toArray:=by
 obtain ⟨h1,h2,h3⟩:=slice_bounds lo hi its.toArray.size
 unfold slicePick
 rw [h1,h2,h3]
 simp only [sliceRange_one,pick_run,List.size_toArray] <;> rfl
noncomputable def rSlL (K:W.Frag):V→Option Int→Option Int→Hp→VK→Prop:=fun x lo hi H Q=>∃ a xs,x=.ref a∧SqL K H a xs∧∀ p,H p=none→Q (.ref p) (upd H p (.lst (cutV xs lo hi)))
theorem sl_list:SlR X (rSlL X.K):=by
 intro pins s σ H x v vl vu lo hi sl Q I rx hs pl pu h
 obtain ⟨a,xs,rfl,hx,q⟩:=h
 cases rx
 obtain ⟨its,r,ht,hz⟩:=I.list hx
 have hlen:=r.length
 refine ⟨"list",_,slot_list_getitem.lookup,ht.isList.typeIs,?_⟩
 refine wpAny_getItem_list_slice ht.isList hs pl pu .none (by simp) ?_ (by rw [List.size_toArray] <;> omega)
 rw [slicePick_cut,← hlen]
 refine ⟨.ref s.heap.objs.size,_,I.laid (t':=s.toks) (o:=.lst (cutV xs lo hi)) (fun b ob q=>Heap.get?_push_of_some _ q) (Nat.le_refl _) ?_,rfl,q _ (I.hok.fresh (Nat.le_refl _))⟩
 exact ⟨Nat.le_trans (cutV_length xs lo hi) hz,_,0,(r.drop (HT.sIx xs.length 0 lo)).take (HT.sIx xs.length xs.length hi - HT.sIx xs.length 0 lo),Heap.get?_push_size _ rfl⟩
noncomputable def flatV:V→Bool
 | .non=>true
 | .bl _=>true
 | .int _=>true
 | .str _=>true
 | _=>false
noncomputable def eqV:V→V→Bool
 | .non,.non=>true
 | .bl a,.bl b=>a == b
 | .bl a,.int b=>(if a then 1 else 0) == b
 | .int a,.bl b=>a == (if b then 1 else 0)
 | .int a,.int b=>a == b
 | .str a,.str b=>a == b
 | _,_=>false
theorem eqAt_V {A:Around}{s:Shared}{y x:V}{u v:Value} (ry:RelV y u) (rx:RelV x v) (fy:flatV y=true) (fx:flatV x=true):SeqAt.EqAt A s u v (eqV y x):=by
 cases y with
 | non =>
  cases ry
  cases x with
  | non=>cases rx; exact SeqAt.EqAt.same _
  | bl b=>cases rx; exact SeqAt.EqAt.none_bool b
  | int b=>obtain ⟨t,rfl⟩:=rx; exact SeqAt.EqAt.none_int b t
  | str b=>obtain ⟨t,rfl⟩:=rx; exact SeqAt.EqAt.none_str b t
  | _=>exact absurd (show false=true from fx) Bool.false_ne_true
 | bl a =>
  cases ry
  cases x with
  | non=>cases rx; exact SeqAt.EqAt.bool_none a
  | bl b=>cases rx; exact SeqAt.EqAt.bool_bool a b
  | int b=>obtain ⟨t,rfl⟩:=rx; exact SeqAt.EqAt.bool_int a b t
  | str b=>obtain ⟨t,rfl⟩:=rx; exact SeqAt.EqAt.bool_str a b t
  | _=>exact absurd (show false=true from fx) Bool.false_ne_true
 | int a =>
  obtain ⟨t',rfl⟩:=ry
  cases x with
  | non=>cases rx; exact SeqAt.EqAt.int_none a t'
  | bl b=>cases rx; exact SeqAt.EqAt.int_bool a t' b
  | int b=>obtain ⟨t,rfl⟩:=rx; exact SeqAt.EqAt.int_int a t' b t
  | str b=>obtain ⟨t,rfl⟩:=rx; exact SeqAt.EqAt.int_str a t' b t
  | _=>exact absurd (show false=true from fx) Bool.false_ne_true
 | str a =>
  obtain ⟨t',rfl⟩:=ry
  cases x with
  | non=>cases rx; exact SeqAt.EqAt.str_none a t'
  | bl b=>cases rx; exact SeqAt.EqAt.str_bool a t' b
  | int b=>obtain ⟨t,rfl⟩:=rx; exact SeqAt.EqAt.str_int a t' b t
  | str b=>obtain ⟨t,rfl⟩:=rx; exact SeqAt.EqAt.str_str a t' b t
  | _=>exact absurd (show false=true from fx) Bool.false_ne_true
 | _=>exact absurd (show false=true from fy) Bool.false_ne_true
noncomputable def eqU (x:V) (u:Value):Bool:=match u with
 | .none=>eqV .non x
 | .bool b=>eqV (.bl b) x
 | .int i _=>eqV (.int i) x
 | .str z _=>eqV (.str z) x
 | _=>false
theorem eqU_of {x y:V}{u:Value} (r:RelV y u) (f:flatV y=true):eqU x u=eqV y x:=by
 cases y with
 | non=>cases r; rfl
 | bl b=>cases r; rfl
 | int i=>obtain ⟨t,rfl⟩:=r; rfl
 | str z=>obtain ⟨t,rfl⟩:=r; rfl
 | _=>exact absurd (show false=true from f) Bool.false_ne_true
theorem any_eqU {x:V}:∀ {xs:List V}{us:List Value},Vals xs us→xs.all flatV=true→us.any (eqU x)=xs.any fun y=>eqV y x
 | _,_,.nil,_=>rfl
 | y::xs,u::us,.cons r t,f=>by
  rw [List.all_cons,Bool.and_eq_true] at f
  rw [List.any_cons,List.any_cons,eqU_of r f.1,any_eqU t f.2]
theorem mem_eqAt {A:Around}{s:Shared}{x:V}{v:Value} (rx:RelV x v) (fx:flatV x=true):∀ {xs:List V}{us:List Value},Vals xs us→xs.all flatV=true→∀ u∈us,SeqAt.EqAt A s u v (eqU x u)
 | _,_,.nil,_=>fun u hu=>by cases hu
 | y::xs,u::us,.cons r t,f=>fun u' hu=>by
  rw [List.all_cons,Bool.and_eq_true] at f
  rcases List.mem_cons.mp hu with rfl | hu
  ·rw [eqU_of r f.1]; exact eqAt_V r rx f.1 fx
  ·exact mem_eqAt rx fx t f.2 u' hu
noncomputable def inV (x:V) (xs:List V):Bool:=xs.any fun y=>eqV y x
noncomputable def rIn (K:W.Frag) (neg:Bool):R2:=fun x y H Q=>∃ p xs,y=.ref p∧(SqL K H p xs∨SqT K H p xs)∧flatV x=true∧xs.all flatV=true∧Q (.bl (if neg then !inV x xs else inV x xs)) H
theorem op_in_seq:OpR X (compareOp .In) (rIn X.K false):=by
 intro pins s σ H x y v u Q I rx ry h
 obtain ⟨p,xs,rfl,hq,fx,fs,q⟩:=h
 cases ry
 rcases hq with hq | hq
 ·obtain ⟨its,r,pl,hz⟩:=I.list hq
  refine SeqAt.in_listAt (eqU x) pl.isList (fun w hw=>mem_eqAt rx fx r fs w (by simpa using hw)) ⟨.bl _,H,I,rfl,?_⟩
  rw [show its.toArray.any (eqU x)=its.any (eqU x) by simp,any_eqU r fs]
  exact q
 ·obtain ⟨its,r,pl,hz⟩:=I.tuple hq
  refine SeqAt.in_tupleAt (eqU x) pl (fun w hw=>mem_eqAt rx fx r fs w (by simpa using hw)) ⟨.bl _,H,I,rfl,?_⟩
  rw [show its.toArray.any (eqU x)=its.any (eqU x) by simp,any_eqU r fs]
  exact q
theorem op_notIn_seq:OpR X (compareOp .NotIn) (rIn X.K true):=by
 intro pins s σ H x y v u Q I rx ry h
 obtain ⟨p,xs,rfl,hq,fx,fs,q⟩:=h
 cases ry
 rcases hq with hq | hq
 ·obtain ⟨its,r,pl,hz⟩:=I.list hq
  refine SeqAt.notIn_listAt (eqU x) pl.isList (fun w hw=>mem_eqAt rx fx r fs w (by simpa using hw)) ⟨.bl _,H,I,rfl,?_⟩
  rw [show its.toArray.any (eqU x)=its.any (eqU x) by simp,any_eqU r fs]
  exact q
 ·obtain ⟨its,r,pl,hz⟩:=I.tuple hq
  refine SeqAt.notIn_tupleAt (eqU x) pl (fun w hw=>mem_eqAt rx fx r fs w (by simpa using hw)) ⟨.bl _,H,I,rfl,?_⟩
  rw [show its.toArray.any (eqU x)=its.any (eqU x) by simp,any_eqU r fs]
  exact q
theorem call_len_seq:CallR X (.builtin "len") (fun xs H Q=>∃ p ys,xs=[.ref p]∧(SqL X.K H p ys∨SqT X.K H p ys)∧Q (.int ys.length) H):=by
 intro pins s σ H xs us Q I r h
 obtain ⟨p,ys,rfl,hq,q⟩:=h
 obtain ⟨u,rfl,rx⟩:=vals1 r
 cases rx
 have hn:=line63
 rcases hq with hq | hq
 ·obtain ⟨its,r',pl,hz⟩:=I.list hq
  have hlen:=r'.length
  exact Calls.call_len_list pl.isList (by simp only [List.size_toArray] <;> omega) ⟨.int ys.length,H,I.tok _,⟨s.toks+1,by rw [List.size_toArray,hlen]⟩,q⟩
 ·obtain ⟨its,r',pl,hz⟩:=I.tuple hq
  have hlen:=r'.length
  exact len_tuple pl (by simp only [List.size_toArray] <;> omega) ⟨.int ys.length,H,I.tok _,⟨s.toks+1,by rw [List.size_toArray,hlen]⟩,q⟩
theorem call_len_str:CallR X (.builtin "len") (fun xs H Q=>∃ z,xs=[.str z]∧z.length≤sizeLine∧Q (.int z.length) H):=by
 intro pins s σ H xs us Q I r h
 obtain ⟨z,rfl,hz,q⟩:=h
 obtain ⟨u,rfl,t,rfl⟩:=vals1 r
 have hn:=line63
 exact len_str (by omega) ⟨.int z.length,H,I.tok _,⟨_,rfl⟩,q⟩
theorem call_list_of:CallR X (.type "list") (fun xs H Q=>∃ p ys,xs=[.ref p]∧(SqL X.K H p ys∨SqT X.K H p ys)∧∀ l,H l=none→Q (.ref l) (upd H l (.lst ys))):=by
 intro pins s σ H xs us Q I r h
 obtain ⟨p,ys,rfl,hq,q⟩:=h
 obtain ⟨u,rfl,rx⟩:=vals1 r
 cases rx
 have fin:∀ (its:List Value),Vals ys its→ys.length≤sizeLine→∀ (h':Heap) (c':Nat),(∀ b o',s.heap.get? b=some o'→h'.get? b=some o') →
   h'.get? s.heap.objs.size=some { cls:=.type "list",dict:=none,data:=.seq its.toArray c',slots:=#[] }→EP X pins σ Q (.ref s.heap.objs.size) { s with heap:=h' }:=fun its r' hz h' c' kp e =>
  ⟨.ref s.heap.objs.size,_,I.laid (t':=s.toks) kp (Nat.le_refl _) (show ObjOk X.prog X.w _ h' _ (.lst ys) from ⟨hz,its,c',r',e⟩),rfl,q _ (I.hok.fresh (Nat.le_refl _))⟩
 rcases hq with hq | hq
 ·obtain ⟨its,r',pl,hz⟩:=I.list hq
  have hlen:=r'.length
  obtain ⟨o,ho,hc,n,hd⟩:=pl.isList
  exact call_list_seq p (.inl rfl) ho hc hd (fun h' c' kp e=>fin its r' hz h' c' kp e) (by simp only [List.size_toArray] <;> omega)
 ·obtain ⟨its,r',pl,hz⟩:=I.tuple hq
  have hlen:=r'.length
  obtain ⟨o,ho,hc,n,hd⟩:=pl
  exact call_list_seq p (.inr rfl) ho hc hd (fun h' c' kp e=>fin its r' hz h' c' kp e) (by simp only [List.size_toArray] <;> omega)
theorem call_tuple_of:CallR X (.type "tuple") (fun xs H Q=>∃ p ys,xs=[.ref p]∧((SqL X.K H p ys∧∀ l,H l=none→Q (.ref l) (upd H l (.tup ys)))∨(SqT X.K H p ys∧Q (.ref p) H))):=by
 intro pins s σ H xs us Q I r h
 obtain ⟨p,ys,rfl,h⟩:=h
 obtain ⟨u,rfl,rx⟩:=vals1 r
 cases rx
 rcases h with ⟨hq,q⟩ | ⟨hq,q⟩
 ·obtain ⟨its,r',pl,hz⟩:=I.list hq
  have hlen:=r'.length
  refine call_tuple_list pl.isList (fun h' kp=>?_) (by simp only [List.size_toArray] <;> omega)
  have I1:Inv X pins σ H { s with heap:=h' }:=I.kept (t':=s.toks) kp
  have I2:Inv X pins σ (upd H h'.objs.size (.tup ys)) { s with heap:=h'.push { cls:=.type "tuple",data:=.seq its.toArray } } :=
   I1.laid (t':=s.toks) (fun b o e=>Heap.get?_push_of_some _ e) (Nat.le_refl _) (show ObjOk X.prog X.w _ _ _ (.tup ys) from ⟨hz,its,r',IsTup.new _ _⟩)
  exact ⟨.ref h'.objs.size,_,I2,rfl,q _ (I1.hok.fresh (Nat.le_refl _))⟩
 ·obtain ⟨its,r',pl,hz⟩:=I.tuple hq
  exact call_tuple_same pl ⟨.ref p,H,I,rfl,q⟩
def tyV (K:W.Frag) (T:String) (x:V) (H:Hp):Prop:=match x with
 | .str _=>T = "str"
 | .int _=>T = "int"
 | .ref p=>(T = "list"∧∃ xs,SqL K H p xs)∨(T = "tuple"∧∃ o,K.lookup p=some o∧o.cls=.type "tuple"∧o.dict=none) ∨
   (T = "dict"∧((∃ kvs,H p=some (.dK kvs))∨∃ kvs,H p=some (.dT kvs)))∨(T = "set"∧∃ S n,H p=some (.set S n))
 | _=>False
theorem tyV_is {pins:List (Addr × Obj)}{σ:St}{H:Hp}{s:Shared}{T:String}{x:V}{v:Value} (I:Inv X pins σ H s) (r:RelV x v) (ty:tyV X.K T x H) :
  s.TypeIs v T∧∀ a,v=.ref a→∃ ob,s.heap.get? a=some ob∧ob.dict=none:=by
 cases x with
 | str z =>
  obtain ⟨t,rfl⟩:=r
  cases (show T = "str" from ty)
  exact ⟨typeIs_str s z t,fun _ e=>nomatch e⟩
 | int i =>
  obtain ⟨t,rfl⟩:=r
  cases (show T = "int" from ty)
  exact ⟨typeIs_int s i t,fun _ e=>nomatch e⟩
 | ref p =>
  cases r
  rcases ty with ⟨rfl,xs,hq⟩ | ⟨rfl,o,hk,hc,hd⟩ | ⟨rfl,hk⟩ | ⟨rfl,S,n,hk⟩
  ·obtain ⟨its,_,pl,_⟩:=I.list hq
   refine ⟨pl.isList.typeIs,fun a e=>?_⟩
   cases e
   obtain ⟨o,n,e,c,hd,_⟩:=pl
   exact ⟨o,e,hd⟩
  ·refine ⟨⟨o,I.kIn p o hk,hc⟩,fun a e=>?_⟩
   cases e
   exact ⟨o,I.kIn _ o hk,hd⟩
  ·have z:∃ o,s.heap.get? p=some o∧o.ExactDict:=by
    rcases hk with ⟨kvs,hk⟩ | ⟨kvs,hk⟩
    ·obtain ⟨_,_,_,_,o,_,_,e,ex,_⟩:=I.hok p _ hk
     exact ⟨o,e,ex⟩
    ·obtain ⟨_,_,_,_,o,_,_,e,ex,_⟩:=I.hok p _ hk
     exact ⟨o,e,ex⟩
   obtain ⟨o,e,ex⟩:=z
   refine ⟨⟨o,e,ex.1⟩,fun a e2=>?_⟩
   cases e2
   exact ⟨o,e,ex.2.1⟩
  ·obtain ⟨o,_,_,_,e,ex,_⟩:=I.hok p _ hk
   refine ⟨⟨o,e,ex.1⟩,fun a e2=>?_⟩
   cases e2
   exact ⟨o,e,ex.2.1⟩
 | _=>exact False.elim ty
noncomputable def tBM (K:W.Frag) (T:String) (r:V→List V→Hp→VK→Prop) (to:TE) (t:TA):TE:=fun σ H Q=>to σ H fun x H1=>tyV K T x H1∧t σ H1 fun xs H2=>r x xs H2 Q
variable {o e:Expr}{es:List Expr}{to:TE}{t:TA}{name:Str}{apos cpos:Pos}{T id:String}{r:V→List V→Hp→VK→Prop}
theorem pe_bm (pa:PlainAttrs T) (slot:Slot T name id) (hty:typeOf (.builtin id)=pure (.type "method_descriptor")) (hm:MtR X id r) (ho:PE X o to) (ha:PA X (e::es) t)
  (hbase:attributeBase o name X.env (eval o X.env)=eval o X.env:=by rfl)
  (hfew:((backTo cpos (starEach (e::es) X.env)).all (fun x=>!x.1)&&(backToKw cpos (keywordEach [] X.env)).all (fun x=>x.1.isSome)
   && decide ((e::es).length+([]:List Keyword).length+(if ([]:List Keyword).isEmpty then 0 else 1)<30))=true:=by rfl)
  (hline:(apos.endLine == cpos.line)=true:=by rfl) (hs:starEach (e::es) X.env=(false,eval e X.env)::starEach es X.env:=by rfl) (hplain:(backTo cpos (starEach es X.env)).any (·.1)=false:=by rfl) :
  PE X (.Call (.Attribute o name apos) (e::es) [] cpos) (tBM X.K T r to t):=by
 intro pins s σ H Q I h
 refine wpAny_Call_method_late hbase hfew hline rfl (thn (ho pins s σ H _ I h) fun v s1 ⟨x,H1,I1,r1,ty,q1⟩=>?_)
 obtain ⟨h1,h2⟩:=tyV_is I1 r1 ty
 refine ⟨T,id,pa,slot,hty,h1,h2,?_⟩
 have hA:=ha cpos pins s1 σ H1 _ I1 q1
 rw [hs] at hA ⊢
 refine Calls.callWith_builtin (by show (false||(backTo cpos (starEach es X.env)).any (·.1))=false; rw [hplain] <;> rfl) (Calls.evalArgs_plain ?_)
 exact thn hA fun us s2 ⟨vs,H2,I2,r2,q2⟩=>hm pins s2 σ H2 x vs v us Q I2 r1 r2 q2
end
def MtM (X:Cx) (id:String) (r:V→List V→Hp→VK→Prop):Prop :=
 ∀ (pins:List (Addr × Obj)) (s:Shared) (σ:St) (H:Hp) (x:V) (xs:List V) (v:Value) (us:List Value) (Q:VK),Inv X pins σ H s→RelV x v→Vals xs us→r x xs H Q →
  wpAny (model X.prog X.w) X.A (call (.builtin id) (v::us)) (EP X pins σ Q) X.xe s
theorem Vals.cinv {x:V}{xs:List V}:∀ {us:List Value},Vals (x::xs) us→∃ u r,us=u::r∧RelV x u∧Vals xs r
 | _,.cons r t=>⟨_,_,rfl,r,t⟩
theorem Vals.ninv:∀ {us:List Value},Vals [] us→us=[]
 | _,.nil=>rfl
theorem Vals.one {x:V}{us:List Value} (h:Vals [x] us):∃ u,us=[u]∧RelV x u:=by
 obtain ⟨u,r,rfl,a,t⟩:=h.cinv
 rw [t.ninv]
 exact ⟨u,rfl,a⟩
theorem Vals.two {x y:V}{us:List Value} (h:Vals [x,y] us):∃ u v,us=[u,v]∧RelV x u∧RelV y v:=by
 obtain ⟨u,r,rfl,a,t⟩:=h.cinv
 obtain ⟨v,rfl,b⟩:=t.one
 exact ⟨u,v,rfl,a,b⟩
theorem Vals.eraseIdx:∀ {xs:List V}{us:List Value} (i:Nat),Vals xs us→Vals (xs.eraseIdx i) (us.eraseIdx i)
 | _,_,_,.nil=>.nil
 | _,_,0,.cons _ t=>t
 | _,_,i+1,.cons r t=>.cons r (Vals.eraseIdx i t)
theorem len_erase {α:Type}:∀ (l:List α) (i:Nat),(l.eraseIdx i).length≤l.length
 | [],_=>Nat.le_refl _
 | _::_,0=>Nat.le_succ _
 | _::r,i+1=>Nat.succ_le_succ (len_erase r i)
section
variable {X:Cx}{pins:List (Addr × Obj)}{σ:St}{H:Hp}{s:Shared}{l b:Addr}{xs ys zs:List V}
theorem Inv.lset {its its':List Value}{n:Nat}{f:Array Value→Array Value}{t':Nat} (I:Inv X pins σ H s) (hH:H l=some (.lst xs))
  (e:s.heap.get? l=some { cls:=.type "list",data:=.seq its.toArray n }) (hf:f its.toArray=its'.toArray) (hv:Vals ys its') (hz:ys.length≤sizeLine) :
  Inv X pins σ (upd H l (.lst ys)) { s with heap:=s.heap.update l (Obj.mapSeq f),toks:=t' }:=by
 have q:=PySem.IsL.update e f
 rw [hf] at q
 refine I.write (x:=l) (e:=l) (by rw [hH]; exact trivial) (.inl rfl) (fun b' u hb hu=>(Heap.get?_update_other s.heap (Obj.mapSeq f) (Ne.symm hb)).trans hu) ⟨_,q⟩ ?_
 exact ⟨hz,its',_,hv,q⟩
theorem Inv.lnew {its:List Value}{t':Nat} (I:Inv X pins σ H s) (hv:Vals ys its) (hz:ys.length≤sizeLine) :
  Inv X pins σ (upd H s.heap.objs.size (.lst ys)) { s with heap:=s.heap.push { cls:=.type "list",data:=.seq its.toArray },toks:=t' } :=
 I.laid (fun _ _ q=>Heap.get?_push_of_some _ q) (Nat.le_refl _) ⟨hz,its,0,hv,Heap.get?_push_size _ rfl⟩
theorem Inv.fresh (I:Inv X pins σ H s):H s.heap.objs.size=none:=I.hok.fresh (Nat.le_refl _)
theorem Inv.lstM (I:Inv X pins σ H s) (hH:H l=some (.lst xs)):xs.length≤sizeLine∧∃ (its:List Value) (n:Nat),Vals xs its∧xs.length=its.length∧s.heap.get? l=some { cls:=.type "list",data:=.seq its.toArray n }:=by
 obtain ⟨z,its,n,r,e⟩:=I.hok l _ hH
 exact ⟨z,its,n,r,r.length,e⟩
end
section
variable {X:Cx}
noncomputable def rAppend:V→List V→Hp→VK→Prop:=fun x vs H Q=>∃ l xs y,x=.ref l∧vs=[y]∧H l=some (.lst xs)∧xs.length<sizeLine∧Q .non (upd H l (.lst (xs++[y])))
theorem mt_append:MtM X "list.append" rAppend:=by
 intro pins s σ H x vs v us Q I rx rv h
 obtain ⟨l,xs,y,rfl,rfl,hH,hz,q⟩:=h
 cases rx
 obtain ⟨u,rfl,ru⟩:=rv.one
 obtain ⟨z,its,n,r,hl,e⟩:=I.lstM hH
 refine call_meets F.slot_list_append ⟨_,e,rfl⟩ F.entry_list_append (F.args_list_append_2 _ _) (PySem.list_append l its.toArray n u (by rw [List.size_toArray]; omega)) ⟨e,?_⟩
 refine ⟨.non,_,I.lset (its':=its++[u]) hH e (by simp) (r.append (.cons ru .nil)) ?_,rfl,q⟩
 rw [List.length_append,List.length_singleton]
 omega
noncomputable def rPopAt:V→List V→Hp→VK→Prop:=fun x vs H Q=>∃ l xs i k y,x=.ref l∧vs=[.int i]∧H l=some (.lst xs)∧-(2 ^ 63)≤i∧i<2 ^ 63∧seqIndex? i xs.length=some k∧xs[k]?=some y∧Q y (upd H l (.lst (xs.eraseIdx k)))
theorem mt_popAt:MtM X "list.pop" rPopAt:=by
 intro pins s σ H x vs v us Q I rx rv h
 obtain ⟨l,xs,i,k,y,rfl,rfl,hH,h1,h2,hk,hy,q⟩:=h
 cases rx
 obtain ⟨u,rfl,ru⟩:=rv.one
 obtain ⟨t,rfl⟩:=ru
 obtain ⟨z,its,n,r,hl,e⟩:=I.lstM hH
 obtain ⟨w,hw,rw'⟩:=r.get hy
 refine call_meets F.slot_list_pop ⟨_,e,rfl⟩ F.entry_list_pop (F.args_list_pop_2 _ _)
  (MeetsSeq.list_pop_at l its.toArray n i t k w (fitsIndex_both h1 h2) (by rw [List.size_toArray,← hl]; exact hk) (by rw [← Array.getElem?_toList]; exact hw) (by rw [List.size_toArray]; omega)) ⟨e,?_⟩
 refine ⟨y,_,I.lset (its':=its.eraseIdx k) hH e ?_ (r.eraseIdx k) ?_,rw',q⟩
 ·show its.toArray.eraseIdxIfInBounds k=(its.eraseIdx k).toArray
  rw [List.eraseIdxIfInBounds_toArray]
 ·have:=len_erase xs k
  omega
noncomputable def rCat:R2:=fun x y H Q=>∃ l b xs zs,x=.ref l∧y=.ref b∧H l=some (.lst xs)∧H b=some (.lst zs)∧xs.length+zs.length≤sizeLine∧∀ p,H p=none→Q (.ref p) (upd H p (.lst (xs++zs)))
theorem op_cat:OpR X (binaryOp .Add) rCat:=by
 intro pins s σ H x y v u Q I rx ry h
 obtain ⟨l,b,xs,zs,rfl,rfl,hH,hB,hz,q⟩:=h
 cases rx
 cases ry
 obtain ⟨z,its,n,r,hl,e⟩:=I.lstM hH
 obtain ⟨z2,its2,n2,r2,hl2,e2⟩:=I.lstM hB
 refine PySem.P.add_list e e2 ?_ (by rw [List.size_toArray,List.size_toArray]; omega)
 have ea:its.toArray++its2.toArray=(its++its2).toArray:=by simp
 rw [ea]
 exact ⟨.ref _,_,I.lnew (t':=s.toks) (r.append r2) (by rw [List.length_append]; omega),rfl,q _ I.fresh⟩
end
end L2
namespace Att
open PySem PySem.W PySem.Calls PyProof.Rows
theorem ints_of_wellAll {P:Params}{h:Heap}:∀ (ns:List Int) (vs:List Value),WellAll P h vs (ns.map WData.int)→IntsAre vs ns:=by
 intro ns
 induction ns with
 | nil =>
  intro vs w
  rw [List.map_nil] at w
  cases w
  exact .nil
 | cons n ns ih =>
  intro vs w
  rw [List.map_cons] at w
  cases w with
  | cons a b =>
   cases a
   exact .cons _ _ (ih _ b)
theorem script_of {l:OpenLaw}{n:Nat} (hn:l.most=some n) {P:Params}{h:Heap}{args:List WData}{vals:List Value}
  (hpre:l.row.toRowW.claim.pre args=true) (hwl:WellAll P h vals args) :
  ∃ a vs ns,vals=[Value.ref a]∧args=[WData.list (ns.map WData.int)]∧h.get? a=some { cls:=.type "list",data:=.seq vs.toArray }∧IntsAre vs ns∧ns.length≤n:=by
 have hsh:WShape.hasAll [] args [.list .int]=true:=(pre_splitW hpre).1
 have hc:l.pre.holds [] { args:=args }=true:=(pre_splitW hpre).2
 obtain ⟨d,r,rfl,h1,h2⟩:=hasAllW_cons hsh
 obtain rfl:=hasAllW_nil h2
 obtain ⟨xs,rfl,h3⟩:=hasW_list h1
 obtain ⟨ns,rfl⟩:=items_int h3
 have hlen:ns.length≤n:=by
  unfold OpenLaw.pre at hc
  have h4:(WTm.not (.lt (.lit (.int (n:Int))) (.len (.arg 0)))).holds [] { args:=[.list (ns.map .int)] }=true:=by
   have h4:=(holds_andW hc).1
   rw [hn] at h4
   exact h4
  have h5:=condW_of h4 (w_not (w_lt w_lit (w_len_list (w_arg rfl))))
  rw [List.length_map] at h5
  refine Nat.le_of_not_lt fun q=>?_
  have q':(n:Int)<((ns.length:Nat):Int):=by omega
  first
   | (rw [decide_eq_true q'] at h5; exact absurd h5 (by decide))
   | (simp at h5; omega)
 cases hwl with
 | cons w1 w2 =>
  cases w2
  cases w1 with
  | list ho hall=>exact ⟨_,_,ns,rfl,rfl,ho,ints_of_wellAll ns _ hall,hlen⟩
theorem post_true (l:OpenLaw) (args:List WData):l.row.toRowW.claim.post args (.bool true) args=true :=
 postW_of (r:=l.row.toRowW) (X:=(true == true))
  (show WShape.has [] (.bool true) .bool=true by first | rfl | decide | simp [WShape.has,WShape.arms,WShape.armsAll])
  (show (WTm.eq .res (.lit (.bool true))).value [] { args:=args,res:=some (.bool true),after:=args }=some (.bool (true == true)) from w_eq_bool (w_res rfl) w_lit) rfl
theorem attach_call {l:OpenLaw}{n:Nat}{q:Program}{loose:List Str}{XP:(Str→Option Value)→Heap→Prop}{YP:World→Heap→Prop}{d:DefRec}
  (hn:l.most=some n) (hdf:d.params.defaults=[])
  (call:∀ (w:World) (s₀ s₁:Shared) (mg mb:Str→Option Value) (fa:Addr) (o:Obj) (pm cd doc:Value) (a:Addr) (vs:List Value) (ns:List Int),
   Ground q loose [] XP w s₀ mg mb s₁.heap→YP w s₁.heap →
   s₁.heap.get? fa=some o→o.data=.func (docDef d.name d.params d.body d.scope pm cd doc)→s₁.heap.CodeRec cd d.name→mg d.name=some (.ref fa) →
   s₁.heap.get? a=some { cls:=.type "list",data:=.seq vs.toArray }→IntsAre vs ns→ns.length≤n→s₁.gens=#[] →
   codeAny (model l.prog w) callerA (.call (.ref fa) ⟨[.ref a],[]⟩) (fun r s'=>r=.ok (.ret (.bool true))∧OldK s₁.heap s'.heap∧s'.os=s₁.os∧AllBare s'.gens) s₁) :
  WalkO q loose XP YP l.row.toRowW d [] (fun f vs=>PySem.call f vs):=by
 intro w s₀ s₁ mg mb G Y fa o pm cd doc dV kV ho hd hcd hD hmg hg args vals as hpre hlay hrd hwl hlo
 obtain rfl:dV=.none:=Dflts.none hD hdf
 obtain rfl:kV=.none:=Dflts.noKw hD
 obtain ⟨a,vs,ns,rfl,rfl,hobj,hints,hlen⟩:=script_of hn hpre hwl
 refine enter_call (codeAny_mono (call w s₀ s₁ mg mb fa o pm cd doc a vs ns G Y ho (fd_plain hd) hcd hmg hobj hints hlen hg) fun r s' hq=>?_)
 obtain ⟨rfl,h2,h3,h4⟩:=hq
 exact ⟨.inl ⟨.bool true,.bool true,[],rfl,fun _=>rfl,.bool true,post_true l _,fun _=>⟨List.Pairwise.nil,fun _ hm=>(nomatch hm)⟩⟩,h2,h3,h4⟩
end Att
namespace L2
open PySem PySem.Spec PyProof.Rows
theorem vals_ints:∀ {vs:List Value}{ns:List Int},IntsAre vs ns→Vals (ns.map V.int) vs
 | _,_,.nil=>.nil
 | _,_,.cons n t h=>.cons ⟨t,rfl⟩ (vals_ints h)
noncomputable def defArgs (s:Stmt):Arguments:=match s with
 | .FunctionDef _ a _ _ _ _ _ _ _ _=>a
 | _=>{ posonlyargs:=[],args:=[],vararg:=none,kwonlyargs:=[],kw_defaults:=[],kwarg:=none,defaults:=[] }
noncomputable def defBody (s:Stmt):List Stmt:=match s with
 | .FunctionDef _ _ b _ _ _ _ _ _ _=>b
 | _=>[]
noncomputable def defScope (s:Stmt):Scope:=match s with
 | .FunctionDef _ _ _ _ _ _ sc _ _ _=>sc
 | _=>{ kind:=.function,names:=[],isGenerator:=false,isCoroutine:=false }
noncomputable abbrev CX0:CXT:=fun _ _ _ _ _ _=>False
noncomputable abbrev E0:XK:=fun _ _ _=>False
structure Fun (K:W.Frag) (x qual:Str) (st:Stmt) (f:Addr) (fd:FuncData):Prop where
 ex:∃ (oc:Value) (od:Option Addr) (kV doc pm:Value) (an:Option Addr) (cdv ct:Value) (osl:Array (Option Value)),
  fd=W.fnOf x qual (defArgs st) (defBody st) (defScope st) .none kV doc pm an cdv ct∧K.lookup f=some ⟨oc,od,.func fd,osl⟩∧W.codeIn K cdv qual=true
 kp:W.keepIn K (.ref f)=true
section
variable {P:Program}{w:World}{K:W.Frag}{mg:Str→Option Value}{base:Heap}
theorem Fun.binds {x qual:Str}{st:Stmt}{f:Addr}{fd:FuncData}{ps:List Str} (F:Fun K x qual st f fd)
  (h:∀ (kV doc pm:Value) (an:Option Addr) (cdv ct:Value) (us:List Value),us.length=ps.length→bindArgs (W.fnOf x qual (defArgs st) (defBody st) (defScope st) .none kV doc pm an cdv ct) ⟨us,[]⟩=pure (ps.zip us)):Binds K fd ps []:=by
 obtain ⟨oc,od,kV,doc,pm,an,cdv,ct,osl,rfl,lk,hcd⟩:=F.ex
 exact .all (h kV doc pm an cdv ct)
theorem fun_mk {x qual:Str}{st:Stmt}{f:Addr}{oc:Value}{od an:Option Addr}{osl:Array (Option Value)}{kV doc pm cdv ct:Value} (l:K.lookup f=some ⟨oc,od,.func (W.fnOf x qual (defArgs st) (defBody st) (defScope st) .none kV doc pm an cdv ct),osl⟩)
  (c:W.codeIn K cdv qual=true) (k:W.keepIn K (.ref f)=true):Fun K x qual st f (W.fnOf x qual (defArgs st) (defBody st) (defScope st) .none kV doc pm an cdv ct):=⟨⟨oc,od,kV,doc,pm,an,cdv,ct,osl,rfl,l,c⟩,k⟩
end
theorem hu_of {A:Around}{k:Nat} (hr:Room k A):A.units+1<cLine:=Nat.lt_of_le_of_lt (Nat.add_le_add_left (by decide:1≤64) _) hr.units
theorem small1000 {n:Nat} (h:n≤1000):n<sizeLine:=Nat.lt_of_le_of_lt h (by decide)
def Same (H H':Hp):Prop:=∀ b o,H b=some o→H' b=some o
theorem Same.refl (H:Hp):Same H H:=fun _ _ h=>h
section
variable {κ:Type} [DecidableEq κ]
noncomputable def valV (kvs:List (κ × V)) (k:κ):Option V:=(kvs.find? fun kv=>decide (kv.1=k)).map (·.2)
noncomputable def putK (kvs:List (κ × V)) (k:κ) (v:V):List (κ × V) :=
 if (kvs.any fun kv=>decide (kv.1=k))=true then kvs.map (fun kv=>if kv.1=k then (kv.1,v) else kv) else kvs++[(k,v)]
theorem valV_pos {p:κ × V}{r:List (κ × V)}{k:κ} (e:p.1=k):valV (p::r) k=some p.2:=by simp [valV,List.find?_cons,e]
theorem valV_neg {p:κ × V}{r:List (κ × V)}{k:κ} (e:¬ p.1=k):valV (p::r) k=valV r k:=by simp [valV,List.find?_cons,e]
theorem valV_any (k:κ):∀ kvs:List (κ × V),(kvs.any fun kv=>decide (kv.1=k))=(valV kvs k).isSome
 | []=>rfl
 | p::r=>by
  rw [List.any_cons]
  by_cases e:p.1=k
  ·simp only [valV_pos e,decide_eq_true e,Bool.true_or,Option.isSome_some]
  ·rw [valV_neg e,decide_eq_false e,Bool.false_or]; exact valV_any k r
theorem length_putK (kvs:List (κ × V)) (k:κ) (v:V):(putK kvs k v).length≤kvs.length+1:=by
 unfold putK
 split
 ·rw [List.length_map]; omega
 ·rw [List.length_append,List.length_cons,List.length_nil]; omega
theorem RelO.isSome_eq {o:Option V}{u:Option Value} (r:RelO o u):o.isSome=u.isSome:=by
 cases o with
 | none=>cases u with
  | none=>rfl
  | some _=>exact (show False from r).elim
 | some _=>cases u with
  | none=>exact (show False from r).elim
  | some _=>rfl
theorem KV.val {kvs:List (κ × V)}{vs:List (κ × Value)} (r:KV kvs vs) (k:κ):RelO (valV kvs k) (valueAt vs k):=by
 unfold KV at r
 induction r with
 | nil=>exact True.intro
 | @cons p q ps qs h t ih =>
  obtain ⟨h1,h2⟩:=h
  by_cases e:p.1=k
  ·have e':q.1=k:=h1.symm.trans e
   have b:valueAt (q::qs) k=some q.2:=by simp [valueAt,List.find?_cons,e']
   rw [valV_pos e,b]; exact h2
  ·have e':¬ q.1=k:=fun z=>e (h1.trans z)
   have b:valueAt (q::qs) k=valueAt qs k:=by simp [valueAt,List.find?_cons,e']
   rw [valV_neg e,b]; exact ih
theorem KV.any {kvs:List (κ × V)}{vs:List (κ × Value)} (r:KV kvs vs) (k:κ):(kvs.any fun kv=>decide (kv.1=k))=vs.any fun kv=>decide (kv.1=k):=by
 unfold KV at r
 induction r with
 | nil=>rfl
 | cons h t ih=>rw [List.any_cons,List.any_cons,ih,h.1]
theorem KV.repl {kvs:List (κ × V)}{vs:List (κ × Value)} (r:KV kvs vs) (k:κ) {y:V}{u:Value} (ry:RelV y u) :
  KV (kvs.map fun kv=>if kv.1=k then (kv.1,y) else kv) (vs.map fun kv=>if kv.1=k then (kv.1,u) else kv):=by
 unfold KV at r ⊢
 induction r with
 | nil=>exact .nil
 | @cons p q ps qs h t ih =>
  rw [List.map_cons,List.map_cons]
  refine .cons ?_ ih
  obtain ⟨h1,h2⟩:=h
  by_cases e:p.1=k
  ·rw [if_pos e,if_pos (h1.symm.trans e)]; exact ⟨h1,ry⟩
  ·rw [if_neg e,if_neg (fun z=>e (h1.trans z))]; exact ⟨h1,h2⟩
theorem KV.put {kvs:List (κ × V)}{vs:List (κ × Value)} (r:KV kvs vs) (k:κ) {y:V}{u:Value} (ry:RelV y u):KV (putK kvs k y) (stored vs k u):=by
 unfold putK stored
 rw [r.any k]
 by_cases e:(vs.any fun kv=>decide (kv.1=k))=true
 ·rw [if_pos e,if_pos e]; exact r.repl k ry
 ·rw [if_neg e,if_neg e]; exact Paired.snoc r ⟨rfl,ry⟩
theorem KV.length {kvs:List (κ × V)}{vs:List (κ × Value)} (r:KV kvs vs):kvs.length=vs.length:=Paired.length r
end
theorem kV_is {P:Program}{w:World}{k:Key}{u:Value} (r:RelV (kV k) u):(mixKind P w).is k u=true:=by
 cases k with
 | inl i=>obtain ⟨t,e⟩:=(show ∃ t,u=Value.int i t from r); subst e; exact mixKind_int P w i t
 | inr x=>obtain ⟨t,e⟩:=(show ∃ t,u=Value.str x t from r); subst e; exact mixKind_str P w x t
theorem items_are {P:Program}{w:World}:∀ {ks:List Key}{us:List Value},Vals (ks.map kV) us→ItemsAre (mixKind P w) ks us
 | [],_,r=>by rw [List.map_nil] at r; cases r; exact .nil
 | k::ks,_,r=>by
  rw [List.map_cons] at r
  cases r with
  | cons h t=>exact .cons (kV_is h) (items_are t)
noncomputable abbrev KT (H:Hp):List (List Key × V)→List (List Key × Addr × Value)→Prop:=Paired fun p q=>p.1=q.1∧H q.2.1=some (.tup (p.1.map kV))∧RelV p.2 q.2.2
theorem KT.val {H:Hp}{kvs:List (List Key × V)}{xs:List (List Key × Addr × Value)} (r:KT H kvs xs) (k:List Key):RelO (valV kvs k) ((atKey xs k).map (·.2)):=by
 induction r with
 | nil=>exact True.intro
 | @cons p q ps qs h t ih =>
  obtain ⟨h1,_,h2⟩:=h
  by_cases e:p.1=k
  ·have e':q.1=k:=h1.symm.trans e
   have b:atKey (q::qs) k=some q.2:=by simp [atKey,List.find?_cons,e']
   rw [valV_pos e,b]; exact h2
  ·have e':¬ q.1=k:=fun z=>e (h1.trans z)
   have b:atKey (q::qs) k=atKey qs k:=by simp [atKey,List.find?_cons,e']
   rw [valV_neg e,b]; exact ih
theorem KT.repl {H:Hp}{kvs:List (List Key × V)}{xs:List (List Key × Addr × Value)} (r:KT H kvs xs) (k:List Key) {y:V}{u:Value} (ry:RelV y u) :
  KT H (kvs.map fun kv=>if kv.1=k then (kv.1,y) else kv) (xs.map (putAt k u)):=by
 induction r with
 | nil=>exact .nil
 | @cons p q ps qs h t ih =>
  rw [List.map_cons,List.map_cons]
  refine .cons ?_ ih
  obtain ⟨h1,h2,h3⟩:=h
  unfold putAt
  by_cases e:p.1=k
  ·rw [if_pos e,if_pos (h1.symm.trans e)]; exact ⟨h1,h2,ry⟩
  ·rw [if_neg e,if_neg (fun z=>e (h1.trans z))]; exact ⟨h1,h2,h3⟩
theorem KT.put {H:Hp}{kvs:List (List Key × V)}{xs:List (List Key × Addr × Value)} (r:KT H kvs xs) (k:List Key) {b:Addr}{y:V}{u:Value} (hb:H b=some (.tup (k.map kV))) (ry:RelV y u) :
  KT H (putK kvs k y) (storedH xs k b u):=by
 have e:(kvs.any fun kv=>decide (kv.1=k))=(atKey xs k).isSome:=by
  rw [valV_any,(r.val k).isSome_eq,Option.isSome_map]
 unfold putK storedH
 rw [e]
 by_cases q:(atKey xs k).isSome=true
 ·rw [if_pos q,if_pos q]; exact r.repl k ry
 ·rw [if_neg q,if_neg q]; exact Paired.snoc r ⟨rfl,hb,ry⟩
theorem KT.keeps {H H':Hp}{kvs:List (List Key × V)}{xs:List (List Key × Addr × Value)} (r:KT H kvs xs) (ht:∀ b ys,H b=some (.tup ys)→H' b=some (.tup ys)):KT H' kvs xs :=
 Paired.mapP r fun _ _ z=>⟨z.1,ht _ _ z.2.1,z.2.2⟩
section
variable {P:Program}{w:World}{H:Hp}{h:Heap}{a:Addr}
theorem rd_of {u:HO} (ok:HOk P w H h) (e:Rd H a u):ObjOk P w H h a u:=e.ok ok
theorem dk_rd {kvs:List (Key × V)} (ok:HOk P w H h) (e:Rd H a (.dK kvs)):kvs.length≤sizeLine∧(a == sysModules)=false∧∃ vs,KV kvs vs∧h.DictOf (mixKind P w) a vs :=
 show ObjOk P w H h a (.dK kvs) from rd_of ok e
theorem dk_of {kvs:List (Key × V)} (ok:HOk P w H h) (e:H a=some (.dK kvs)):kvs.length≤sizeLine∧(a == sysModules)=false∧∃ vs,KV kvs vs∧h.DictOf (mixKind P w) a vs:=dk_rd ok (.inl e)
theorem key_of {ks:List Key} (ok:HOk P w H h) (e:H a=some (.tup (ks.map kV))):(tupleKind (mixKind P w)).is h ks a:=by
 obtain ⟨_,its,r,o,h1,h2,n,h3⟩:=(show ObjOk P w H h a (.tup (ks.map kV)) from ok a _ e)
 exact ⟨o,its.toArray,n,h1,h2,h3,by simpa using items_are r⟩
theorem dt_rd {kvs:List (List Key × V)} (ok:HOk P w H h) (e:Rd H a (.dT kvs)):kvs.length≤sizeLine∧(a == sysModules)=false ∧
  ∃ xs,KT H kvs xs∧h.DictOfH (tupleKind (mixKind P w)) a xs:=by
 obtain ⟨z,y,xs,r,o,es,ep,h1,h2,h3,h4,h5⟩:=(show ObjOk P w H h a (.dT kvs) from rd_of ok e)
 refine ⟨z,y,xs,r,o,es,ep,h1,h2,h3,h4,fun x hx=>?_,h5⟩
 have all:∀ {l:List (List Key × V)}{m:List (List Key × Addr × Value)},KT H l m→∀ x∈m,(tupleKind (mixKind P w)).is h x.1 x.2.1:=by
  intro l m q
  induction q with
  | nil=>intro x hx; exact nomatch hx
  | @cons p q ps qs hq t ih =>
   intro x hx
   rcases List.mem_cons.mp hx with e | hx
   ·subst e
    exact key_of ok (by rw [← hq.1]; exact hq.2.1)
   ·exact ih x hx
 exact all r x hx
theorem dt_of {kvs:List (List Key × V)} (ok:HOk P w H h) (e:H a=some (.dT kvs)):kvs.length≤sizeLine∧(a == sysModules)=false ∧
  ∃ xs,KT H kvs xs∧h.DictOfH (tupleKind (mixKind P w)) a xs:=dt_rd ok (.inl e)
end
def DGet (H:Hp) (a:Addr) (y:V) (r:Option V):Prop :=
 (∃ kvs k,Rd H a (.dK kvs)∧y=kV k∧r=valV kvs k)∨∃ kvs k b,Rd H a (.dT kvs)∧y=.ref b∧H b=some (.tup (k.map kV))∧r=valV kvs k
def DPut (H:Hp) (a:Addr) (y v:V) (H':Hp):Prop :=
 (∃ kvs k,H a=some (.dK kvs)∧y=kV k∧kvs.length<sizeLine∧H'=upd H a (.dK (putK kvs k v))) ∨
 ∃ kvs k b,H a=some (.dT kvs)∧y=.ref b∧H b=some (.tup (k.map kV))∧kvs.length<sizeLine∧H'=upd H a (.dT (putK kvs k v))
theorem DGet.k {H:Hp}{a:Addr}{kvs:List (Key × V)}{k:Key} (e:H a=some (.dK kvs)):DGet H a (kV k) (valV kvs k):=.inl ⟨kvs,k,.inl e,rfl,rfl⟩
theorem DGet.t {H:Hp}{a b:Addr}{kvs:List (List Key × V)}{k:List Key} (e:H a=some (.dT kvs)) (eb:H b=some (.tup (k.map kV))):DGet H a (.ref b) (valV kvs k):=.inr ⟨kvs,k,b,.inl e,rfl,eb,rfl⟩
theorem DPut.k {H:Hp}{a:Addr}{kvs:List (Key × V)}{k:Key}{v:V} (e:H a=some (.dK kvs)) (hl:kvs.length<sizeLine):DPut H a (kV k) v (upd H a (.dK (putK kvs k v))):=.inl ⟨kvs,k,e,rfl,hl,rfl⟩
theorem DPut.t {H:Hp}{a b:Addr}{kvs:List (List Key × V)}{k:List Key}{v:V} (e:H a=some (.dT kvs)) (eb:H b=some (.tup (k.map kV))) (hl:kvs.length<sizeLine) :
  DPut H a (.ref b) v (upd H a (.dT (putK kvs k v))):=.inr ⟨kvs,k,b,e,rfl,eb,hl,rfl⟩
section
variable {X:Cx}{pins:List (Addr × Obj)}{σ:St}{H:Hp}{s:Shared}{a:Addr}{y v:V}{u r:Value}{o:Option V}{A:Around}{E:Value→Shared→Prop}
theorem Inv.big (I:Inv X pins σ H s):sysModules<s.heap.objs.size:=by
 have h:mainGlobals<s.heap.objs.size:=(I.mod.glob.keeps I.bk).lt
 exact Nat.lt_trans (by decide) h
theorem d_getItem {Q:Value→Shared→Prop} (hu:A.units+1<cLine) (I:Inv X pins σ H s) (g:DGet H a y (some v)) (ry:RelV y u) (h:∀ w' s',Inv X pins σ H s'→RelV v w'→Q w' s') :
  wpAny (model X.prog X.w) A (getItem (.ref a) u) Q E s:=by
 rcases g with ⟨kvs,k,e,ey,l⟩ | ⟨kvs,k,b,e,ey,eb,l⟩
 ·subst ey
  obtain ⟨z,hd,vs,rel,dd⟩:=dk_rd I.hok e
  obtain ⟨w',hw,rw'⟩:=RelO.some_of (v:=v) (o:=valueAt vs k) (by rw [l]; exact rel.val k)
  exact wpAny_getItem_of (kV_is ry) dd.mapOf hw (h w' _ (I.tok _) rw')
 ·subst ey
  cases (show u=Value.ref b from ry)
  obtain ⟨z,hd,xs,rel,dd⟩:=dt_rd I.hok e
  obtain ⟨w',hw,rw'⟩:=RelO.some_of (v:=v) (o:=(atKey xs k).map (·.2)) (by rw [l]; exact rel.val k)
  obtain ⟨p,hp,hp2⟩:=Option.map_eq_some_iff.mp hw
  refine wpAny_getItem_heap (tupleKind_room_in1 hu) (key_of I.hok eb) dd hp ?_
  rw [hp2]
  exact h w' _ (I.tok _) rw'
theorem d_in {Q:Value→Shared→Prop} (hu:A.units+1<cLine) (I:Inv X pins σ H s) (g:DGet H a y o) (ry:RelV y u) (h:∀ s',Inv X pins σ H s'→Q (.bool o.isSome) s') :
  wpAny (model X.prog X.w) A (compareOp .In u (.ref a)) Q E s:=by
 rcases g with ⟨kvs,k,e,ey,l⟩ | ⟨kvs,k,b,e,ey,eb,l⟩
 ·subst ey
  obtain ⟨z,hd,vs,rel,dd⟩:=dk_rd I.hok e
  refine wpAny_in_of (kV_is ry) hd dd.mapOf ?_
  rw [← (rel.val k).isSome_eq,← l]
  exact h _ (I.tok _)
 ·subst ey
  cases (show u=Value.ref b from ry)
  obtain ⟨z,hd,xs,rel,dd⟩:=dt_rd I.hok e
  refine wpAny_in_heap (tupleKind_room_in1 hu) (key_of I.hok eb) hd dd ?_
  have q:=(rel.val k).isSome_eq
  rw [Option.isSome_map] at q
  rw [← q,← l]
  exact h _ (I.tok _)
theorem d_notIn {Q:Value→Shared→Prop} (hu:A.units+1<cLine) (I:Inv X pins σ H s) (g:DGet H a y o) (ry:RelV y u) (h:∀ s',Inv X pins σ H s'→Q (.bool (!o.isSome)) s') :
  wpAny (model X.prog X.w) A (compareOp .NotIn u (.ref a)) Q E s:=by
 rcases g with ⟨kvs,k,e,ey,l⟩ | ⟨kvs,k,b,e,ey,eb,l⟩
 ·subst ey
  obtain ⟨z,hd,vs,rel,dd⟩:=dk_rd I.hok e
  refine wpAny_notIn_of (kV_is ry) hd dd.mapOf ?_
  rw [← (rel.val k).isSome_eq,← l]
  exact h _ (I.tok _)
 ·subst ey
  cases (show u=Value.ref b from ry)
  obtain ⟨z,hd,xs,rel,dd⟩:=dt_rd I.hok e
  refine wpAny_notIn_heap (tupleKind_room_in1 hu) (key_of I.hok eb) hd dd ?_
  have q:=(rel.val k).isSome_eq
  rw [Option.isSome_map] at q
  rw [← q,← l]
  exact h _ (I.tok _)
theorem d_write {h':Heap}{t':Nat}{ob:HO} (I:Inv X pins σ H s) (mu:Mut (H a)) (hs:Heap.SameBut a s.heap h') (he:∃ q,h'.get? a=some q) (new:ObjOk X.prog X.w (upd H a ob) h' a ob) :
  Inv X pins σ (upd H a ob) { s with heap:=h',toks:=t' } :=
 I.write (x:=a) (e:=a) mu (.inl rfl) (fun b q hb z=>(hs.2 b hb).trans z) he new
theorem dk_new {P:Program}{w:World}{H':Hp}{h':Heap}{kvs:List (Key × V)}{vs:List (Key × Value)} (z:kvs.length≤sizeLine) (hd:(a == sysModules)=false) (rel:KV kvs vs) (dd:h'.DictOf (mixKind P w) a vs) :
  ObjOk P w H' h' a (.dK kvs):=⟨z,hd,vs,rel,dd⟩
theorem d_setItem {H':Hp}{Q:Unit→Shared→Prop} (hu:A.units+1<cLine) (I:Inv X pins σ H s) (g:DPut H a y v H') (ry:RelV y u) (rv:RelV v r) (h:∀ s',Inv X pins σ H' s'→Q () s') :
  wpAny (model X.prog X.w) A (setItem (.ref a) u r) Q E s:=by
 rcases g with ⟨kvs,k,e,ey,l,eH⟩ | ⟨kvs,k,b,e,ey,eb,l,eH⟩
 ·subst ey eH
  obtain ⟨z,hd,vs,rel,dd⟩:=dk_of I.hok e
  have hz:vs.length≤sizeLine:=by rw [← rel.length]; exact z
  have hl:(putK kvs k v).length≤sizeLine:=by have:=length_putK kvs k v; omega
  refine wpAny_setItem_pairs (hsz:=hz) (kV_is ry) dd fun h' dd' hs=>h _ ?_
  have he:∃ q,h'.get? a=some q:=let ⟨q,_,_,hq,_⟩:=dd'; ⟨q,hq⟩
  exact d_write I (by rw [e]; exact True.intro) hs he (dk_new hl hd (rel.put k rv) dd')
 ·subst ey eH
  cases (show u=Value.ref b from ry)
  obtain ⟨z,hd,xs,rel,dd⟩:=dt_of I.hok e
  have hz:xs.length≤sizeLine:=by rw [← Paired.length rel]; exact z
  have hl:(putK kvs k v).length≤sizeLine:=by have:=length_putK kvs k v; omega
  refine wpAny_setItem_heap (hsz:=hz) (tupleKind_room_in1 hu) (key_of I.hok eb) dd fun h' dd' hs=>h _ ?_
  obtain ⟨q,es,ep,hq,h2,h3,h4,_,h5⟩:=dd'
  refine d_write I (by rw [e]; exact True.intro) hs ⟨q,hq⟩ ⟨hl,hd,_,(rel.put k eb rv).keeps fun c ys ec=>?_,q,es,ep,hq,h2,h3,h4,h5⟩
  rw [upd_ne (ne_of ec e (fun z=>nomatch z))]
  exact ec
end
theorem dict_typeIs {X:Cx}{pins:List (Addr × Obj)}{σ:St}{H:Hp}{s:Shared}{a:Addr}{y:V}{o:Option V} (I:Inv X pins σ H s) (g:DGet H a y o):s.TypeIs (.ref a) "dict":=by
 rcases g with ⟨kvs,k,e,_,_⟩ | ⟨kvs,k,b,e,_,_,_⟩
 ·obtain ⟨_,_,vs,_,dd⟩:=dk_rd I.hok e
  exact dd.typeIs
 ·obtain ⟨_,_,xs,_,dd⟩:=dt_rd I.hok e
  exact dd.typeIs
theorem dk_empty {P:Program}{w:World}{H:Hp} (h:Heap) (hb:sysModules<h.objs.size):ObjOk P w H (h.push { cls:=.type "dict",data:=.dict #[] }) h.objs.size (.dK []) :=
 ⟨Nat.zero_le _,beq_eq_false_iff_ne.mpr (Ne.symm (Nat.ne_of_lt hb)),[],.nil,Heap.DictOf.new h⟩
noncomputable def tDNewK:TE:=fun _ H Q=>∀ p,H p=none→Q (.ref p) (upd H p (.dK []))
section
variable {X:Cx}{pos:Pos}
theorem pe_dnewK:PE X (.Dict [] [] pos) tDNewK:=fun pins s σ H Q I h =>
 wpAny_Dict_empty ⟨.ref s.heap.objs.size,_,I.laid (a:=s.heap.objs.size) (o:=.dK []) (t':=s.toks) (fun _ _ q=>Heap.get?_push_of_some _ q) (Nat.le_refl _) (dk_empty s.heap I.big),rfl,h _ (I.hok.fresh (Nat.le_refl _))⟩
end
noncomputable def tPairs:List (TE × TE)→St→Hp→(List (V × V)→Hp→Prop)→Prop
 | [],_,H,Q=>Q [] H
 | (tk,tv)::r,σ,H,Q=>tk σ H fun x H1=>tv σ H1 fun y H2=>tPairs r σ H2 fun ps H3=>Q ((x,y)::ps) H3
noncomputable abbrev VV:List (V × V)→List (Value × Value)→Prop:=Paired fun p q=>RelV p.1 q.1∧RelV p.2 q.2
def PPs (X:Cx) (pos:Pos) (keys:List (Option Expr)) (values:List Expr) (trs:List (TE × TE)):Prop :=
 ∀ (pins:List (Addr × Obj)) (s:Shared) (σ:St) (H:Hp) (Q:List (V × V)→Hp→Prop),Inv X pins σ H s→tPairs trs σ H Q →
  wpAny (model X.prog X.w) X.A (evalPairs (pairTrees keys values X.env pos)) (fun vs s'=>∃ ps H',Inv X pins σ H' s'∧VV ps vs∧Q ps H') X.xe s
theorem pps_nil {X:Cx}{pos:Pos}:PPs X pos [] [] []:=fun pins s σ H Q I h=>pairTrees_nil_walk ⟨[],H,I,.nil,h⟩
theorem pps_cons {X:Cx}{pos:Pos}{k v:Expr}{ks:List (Option Expr)}{vs:List Expr}{tk tv:TE}{trs:List (TE × TE)} (hk:PE X k tk) (hv:PE X v tv) (hr:PPs X pos ks vs trs) :
  PPs X pos (some k::ks) (v::vs) ((tk,tv)::trs):=fun pins s σ H Q I h =>
 pairTrees_cons_walk (thn (hk pins s σ H _ I h) fun u s1 ⟨x,H1,I1,rx,q1⟩=>thn (hv pins s1 σ H1 _ I1 q1) fun w2 s2 ⟨y,H2,I2,ry,q2⟩ =>
  thn (hr pins s2 σ H2 _ I2 q2) fun ws s3 ⟨ps,H3,I3,rel,q3⟩=>⟨(x,y)::ps,H3,I3,.cons ⟨rx,ry⟩ rel,q3⟩)
noncomputable def mergeK (kvs more:List (Key × V)):List (Key × V):=more.foldl (fun acc kv=>putK acc kv.1 kv.2) kvs
theorem KV.merge:∀ {more:List (Key × V)}{rs:List (Key × Value)}{kvs:List (Key × V)}{vs:List (Key × Value)},KV more rs→KV kvs vs→KV (mergeK kvs more) (merged vs rs):=by
 intro more rs kvs vs r
 unfold KV at r
 induction r generalizing kvs vs with
 | nil=>intro q; exact q
 | @cons p q ps qs h t ih =>
  intro r0
  have e:KV (putK kvs p.1 p.2) (stored vs q.1 q.2):=by
   have:=r0.put p.1 h.2
   rw [← h.1]; exact this
  exact ih e
theorem length_mergeK:∀ (more kvs:List (Key × V)),(mergeK kvs more).length≤kvs.length+more.length
 | [],kvs=>by show kvs.length≤kvs.length+0; omega
 | p::r,kvs=>by
  have h1:=length_mergeK r (putK kvs p.1 p.2)
  have h2:=length_putK kvs p.1 p.2
  show (mergeK (putK kvs p.1 p.2) r).length≤_
  rw [List.length_cons]; omega
theorem carries_of {P:Program}{w:World}:∀ {kvs:List (Key × V)}{ws:List (Value × Value)},VV (kvs.map fun kv=>(kV kv.1,kv.2)) ws→∃ rs,Carries (mixKind P w) ws rs∧KV kvs rs
 | [],_,r=>by rw [List.map_nil] at r; cases r; exact ⟨[],True.intro,.nil⟩
 | p::kvs,_,r=>by
  rw [List.map_cons] at r
  cases r with
  | @cons a b as bs h t =>
   obtain ⟨rs,c,q⟩:=carries_of (P:=P) (w:=w) t
   obtain ⟨b1,b2⟩:=b
   exact ⟨(p.1,b2)::rs,⟨kV_is h.1,rfl,c⟩,.cons ⟨rfl,h.2⟩ q⟩
noncomputable def tDisp (trs:List (TE × TE)):TE:=fun σ H Q=>∀ p,H p=none→tPairs trs σ (upd H p (.dK [])) fun ps H2=>H2 p=some (.dK [])∧∃ kvs:List (Key × V),ps=kvs.map (fun kv=>(kV kv.1,kv.2))∧kvs.length≤15∧Q (.ref p) (upd H2 p (.dK (mergeK [] kvs)))
theorem pe_disp {X:Cx}{pos:Pos}{keys:List (Option Expr)}{values:List Expr}{trs:List (TE × TE)} (h:PPs X pos keys values trs) (hall:keys.all (·.isSome)=true) (hl:keys.length=values.length) (h0:keys≠[])
  (h15:keys.length≤15):PE X (.Dict keys values pos) (tDisp trs):=by
 intro pins s σ H Q I q
 have hn:=I.hok.fresh (Nat.le_refl s.heap.objs.size)
 have I1:=I.laid (a:=s.heap.objs.size) (o:=.dK []) (h':=s.heap.push { cls:=.type "dict",data:=.dict #[] }) (t':=s.toks) (fun _ _ q=>Heap.get?_push_of_some _ q) (Nat.le_refl _) (dk_empty s.heap I.big)
 refine wpAny_Dict_walk (knd:=mixKind X.prog X.w) hall hl h0 h15 (thn (h pins _ σ _ _ I1 (q _ hn)) fun ws s2 ⟨ps,H2,I2,rel,e,kvs,ep,lk,q2⟩=>?_)
 subst ep
 obtain ⟨rs,c,rk⟩:=carries_of (P:=X.prog) (w:=X.w) rel
 obtain ⟨z,hd,vs0,r0,dd⟩:=dk_of I2.hok e
 cases r0
 refine ⟨rs,c,dd,fun h' dd' hs=>⟨.ref s.heap.objs.size,_,?_,rfl,q2⟩⟩
 have hz:(mergeK [] kvs).length≤sizeLine:=by
  have h1:=length_mergeK kvs []
  rw [List.length_nil] at h1
  rw [sizeLine_eq]; omega
 have he:∃ q,h'.get? s.heap.objs.size=some q:=let ⟨q,_,_,hq,_⟩:=dd'; ⟨q,hq⟩
 exact d_write I2 (by rw [e]; exact True.intro) hs he (dk_new hz hd (rk.merge .nil) dd')
def WeakS (st st2:St):Prop:=st.length=st2.length∧∀ (i:Nat) v,st[i]?=some (some v)→st2[i]?=some (some v)
noncomputable def cxComp (X:Cx) (scope:Scope) (N:List Str) (cl:List (Str × Addr)) (s:Shared) (H:Hp) (C:Addr) (ex:List Addr):Cx where
 prog:=X.prog
 w:=X.w
 K:=X.K
 mg:=X.mg
 base:=X.base
 A:=X.A
 N:=N
 s₀:=s
 H₀:=H
 env:=compEnvC scope cl C X.env
 outer:=X.stack
 stack:=X.stack
 ex:=ex
 fn:=fun x=>decide ((x,NameKind.cell)∈scope.names)
 calm:=X.calm
 pn:=[]
 xe:=fun _ _=>False
noncomputable def clOf (env:Env):List (Str × NameKind)→List (Str × Addr)→List (Str × Addr)
 | [],acc=>acc
 | (n,k)::r,acc=>if k == .free then (match env.cells.lookup n with | some c=>clOf env r ((n,c)::acc) | none=>clOf env r acc) else clOf env r acc
theorem clOf_sub {env:Env}:∀ (ns:List (Str × NameKind)) (acc:List (Str × Addr)),(∀ x c,acc.lookup x=some c→env.cells.lookup x=some c)→∀ x c,(clOf env ns acc).lookup x=some c→env.cells.lookup x=some c
 | [],_,h=>h
 | (n,k)::r,acc,h=>by
  unfold clOf
  split
  ·split
   ·rename_i c hc
    refine clOf_sub r _ fun x d e=>?_
    rw [List.lookup_cons] at e
    cases hx:x == n with
    | true =>
     rw [hx] at e
     have:x=n:=by simpa using hx
     subst this
     cases e
     exact hc
    | false =>
     rw [hx] at e
     exact h x d e
   ·exact clOf_sub r _ h
  ·exact clOf_sub r _ h
theorem clOf_has {env:Env}:∀ (ns:List (Str × NameKind)) (acc:List (Str × Addr)) (x:Str),((∃ c,acc.lookup x=some c)∨((x,NameKind.free)∈ns∧∃ c,env.cells.lookup x=some c))→∃ c,(clOf env ns acc).lookup x=some c
 | [],acc,x,h=>by
  rcases h with h | ⟨h,_⟩
  ·exact h
  ·cases h
 | (n,k)::r,acc,x,h=>by
  unfold clOf
  split
  ·rename_i hk
   split
   ·rename_i c hc
    refine clOf_has r _ x ?_
    by_cases hx:x=n
    ·subst hx
     exact .inl ⟨c,by rw [List.lookup_cons]; simp⟩
    ·have hb:(x == n)=false:=by simpa using hx
     rcases h with ⟨d,h⟩ | ⟨h,d⟩
     ·exact .inl ⟨d,by rw [List.lookup_cons,hb]; exact h⟩
     ·rcases List.mem_cons.mp h with h | h
      ·cases h; exact absurd rfl hx
      ·exact .inr ⟨h,d⟩
   ·rename_i hc
    refine clOf_has r _ x ?_
    rcases h with h | ⟨h,d,hd⟩
    ·exact .inl h
    ·rcases List.mem_cons.mp h with h | h
     ·cases h
      rw [hc] at hd; cases hd
     ·exact .inr ⟨h,d,hd⟩
  ·rename_i hk
   refine clOf_has r _ x ?_
   rcases h with h | ⟨h,d⟩
   ·exact .inl h
   ·rcases List.mem_cons.mp h with h | h
    ·cases h
     exact absurd rfl hk
    ·exact .inr ⟨h,d⟩
theorem cellOf_ok {env:Env}{x:Str}{c:Addr} (h:env.cells.lookup x=some c):cellOf env x=pure c:=by
 unfold cellOf
 rw [h]
theorem closure_ok {env:Env}:∀ (ns:List (Str × NameKind)) (acc:List (Str × Addr)),(∀ x,(x,NameKind.free)∈ns→∃ c,env.cells.lookup x=some c) →
  (forIn ns acc fun (x:Str × NameKind) (r:List (Str × Addr))=>(match x with
   | (name,kind)=>if kind == NameKind.free then (do let c ← cellOf env name; pure (ForInStep.yield ((name,c)::r))) else pure (ForInStep.yield r):Sem (ForInStep (List (Str × Addr)))))=pure (clOf env ns acc)
 | [],acc,_=>rfl
 | (n,k)::r,acc,h=>by
  rw [List.forIn_cons]
  unfold clOf
  have hr:∀ x,(x,NameKind.free)∈r→∃ c,env.cells.lookup x=some c:=fun x hx=>h x (List.mem_cons_of_mem _ hx)
  by_cases hk:k=.free
  ·subst hk
   obtain ⟨c,hc⟩:=h n (List.mem_cons_self ..)
   dsimp only
   rw [hc,cellOf_ok hc]
   simp only [beq_self_eq_true,if_true,pure_bind]
   exact closure_ok r _ hr
  ·have hb:(k == NameKind.free)=false:=by simpa using hk
   simp only [hb,Bool.false_eq_true,if_false,pure_bind]
   exact closure_ok r _ hr
theorem closureFor_ok {scope:Scope}{env:Env} (h:∀ x,(x,NameKind.free)∈scope.names→∃ c,env.cells.lookup x=some c):closureFor scope env=pure (clOf env scope.names []):=by
 unfold closureFor
 have q:=closure_ok (env:=env) scope.names [] h
 simp only [bind_pure]
 refine Eq.trans ?_ q
 congr 1
theorem mem_of_look {ns:List (Str × NameKind)}{x:Str}{k:NameKind} (h:ns.lookup x=some k):(x,k)∈ns:=by
 induction ns with
 | nil=>cases h
 | cons a r ih =>
  obtain ⟨n,k'⟩:=a
  rw [List.lookup_cons] at h
  cases hx:x == n with
  | true =>
   rw [hx] at h
   have e:x=n:=by simpa using hx
   subst e
   cases h
   exact List.mem_cons_self ..
  | false =>
   rw [hx] at h
   exact List.mem_cons_of_mem _ (ih h)
theorem relabel_mem {scope:Scope}{env:Env}{x:Str}{k:NameKind} (h:(relabel scope env).names.lookup x=some k) (hc:k=.cell∨k=.free):(x,NameKind.free)∈scope.names∨(x,NameKind.cell)∈scope.names:=by
 have m:=mem_of_look h
 obtain ⟨⟨n,k'⟩,hm,e⟩:=List.mem_map.mp m
 dsimp only at e
 split at e
 ·rename_i hq
  cases e
  have:k'=.free:=by
   simp only [Bool.and_eq_true,beq_iff_eq] at hq
   exact hq.1.1
  subst this
  exact .inl hm
 ·cases e
  rcases hc with rfl | rfl
  ·exact .inr hm
  ·exact .inl hm
theorem cells_look:∀ (ns:List (Str × NameKind)) (h:Heap) (acc:List (Str × Addr)) {x:Str}{c:Addr},(cellsFrom h.objs.size ns acc).lookup x=some c →
  ((x,NameKind.cell)∈ns∧h.objs.size≤c∧(pushCells h ns).IsCell c none)∨((x,NameKind.cell)∉ns∧acc.lookup x=some c)
 | [],h,acc,x,c,e=>.inr ⟨by simp,e⟩
 | (n,k)::r,h,acc,x,c,e=>by
  unfold cellsFrom at e
  unfold pushCells
  by_cases hk:(k == NameKind.cell)=true
  ·rw [if_pos hk] at e ⊢
   have hk':k=.cell:=by simpa using hk
   rw [← Heap.size_push h { cls:=.type "cell",data:=.cell none }] at e
   rcases cells_look r _ _ e with ⟨q1,q2,q3⟩ | ⟨q1,q2⟩
   ·exact .inl ⟨List.mem_cons_of_mem _ q1,by rw [Heap.size_push] at q2; omega,q3⟩
   ·rw [List.lookup_cons] at q2
    cases hx:x == n with
    | true =>
     rw [hx] at q2
     cases q2
     have:x=n:=by simpa using hx
     subst this
     subst hk'
     exact .inl ⟨List.mem_cons_self ..,Nat.le_refl _,_,pushCells_keeps _ _ _ _ (Heap.get?_push_size _ rfl),rfl⟩
    | false =>
     rw [hx] at q2
     refine .inr ⟨fun z=>?_,q2⟩
     rcases List.mem_cons.mp z with z | z
     ·cases z; simp at hx
     ·exact q1 z
  ·rw [if_neg hk] at e ⊢
   rcases cells_look r h acc e with ⟨q1,q2,q3⟩ | ⟨q1,q2⟩
   ·exact .inl ⟨List.mem_cons_of_mem _ q1,q2,q3⟩
   ·refine .inr ⟨fun z=>?_,q2⟩
    rcases List.mem_cons.mp z with z | z
    ·cases z; exact hk rfl
    ·exact q1 z
theorem cells_inj:∀ (ns:List (Str × NameKind)) (n:Nat) (acc:List (Str × Addr)),(∀ x c,acc.lookup x=some c→c<n)→(∀ x y c,acc.lookup x=some c→acc.lookup y=some c→x=y) →
  ∀ x y c,(cellsFrom n ns acc).lookup x=some c→(cellsFrom n ns acc).lookup y=some c→x=y
 | [],n,acc,hb,hi=>hi
 | (m,k)::r,n,acc,hb,hi=>by
  unfold cellsFrom
  split
  ·refine cells_inj r (n+1) _ (fun x c e=>?_) fun x y c e1 e2=>?_
   ·rw [List.lookup_cons] at e
    cases hx:x == m with
    | true=>rw [hx] at e; cases e; exact Nat.lt_succ_self _
    | false=>rw [hx] at e; exact Nat.lt_succ_of_lt (hb x c e)
   ·rw [List.lookup_cons] at e1 e2
    cases hx:x == m with
    | true =>
     rw [hx] at e1
     cases e1
     cases hy:y == m with
     | true=>rw [show x=m by simpa using hx,show y=m by simpa using hy]
     | false=>rw [hy] at e2; exact absurd (hb y _ e2) (Nat.lt_irrefl _)
    | false =>
     rw [hx] at e1
     cases hy:y == m with
     | true=>rw [hy] at e2; cases e2; exact absurd (hb x _ e1) (Nat.lt_irrefl _)
     | false=>rw [hy] at e2; exact hi x y c e1 e2
  ·exact cells_inj r n acc hb hi
theorem cells_some:∀ (ns:List (Str × NameKind)) (n:Nat) (acc:List (Str × Addr)) {x:Str},((x,NameKind.cell)∈ns∨∃ c,acc.lookup x=some c)→∃ c,(cellsFrom n ns acc).lookup x=some c
 | [],n,acc,x,h=>by
  rcases h with h | h
  ·cases h
  ·exact h
 | (m,k)::r,n,acc,x,h=>by
  unfold cellsFrom
  split
  ·refine cells_some r _ _ ?_
   by_cases hx:x=m
   ·subst hx
    exact .inr ⟨n,by rw [List.lookup_cons]; simp⟩
   ·have hb:(x == m)=false:=by simpa using hx
    rcases h with h | ⟨c,h⟩
    ·rcases List.mem_cons.mp h with h | h
     ·cases h; exact absurd rfl hx
     ·exact .inl h
    ·exact .inr ⟨c,by rw [List.lookup_cons,hb]; exact h⟩
  ·rename_i hk
   refine cells_some r _ _ ?_
   rcases h with h | h
   ·rcases List.mem_cons.mp h with h | h
    ·cases h; exact absurd rfl hk
    ·exact .inl h
   ·exact .inr h
theorem wpAny_blockEnv {M:Model}{A:Around}{E:Value→Shared→Prop}{s:Shared}{scope:Scope}{globals:Addr}{closure:List (Str × Addr)}{qual:Str}{outer:Env}{Q:Env→Shared→Prop}
  (hQ:Q (newEnv scope s.heap.objs.size globals (cellsFrom (s.heap.push { cls:=.type "dict",data:=.dict #[] }).objs.size scope.names closure) qual none .none (some outer) builtinsNs) { s with heap:=pushCells (s.heap.push { cls:=.type "dict",data:=.dict #[] }) scope.names }) :
  wpAny M A (newFunctionEnv scope globals closure [] qual none .none (some outer)) Q E s:=by
 simp only [newFunctionEnv,Option.isSome_some,if_true]
 refine wpAny_bind (wpAny_alloc ?_)
 refine wpAny_bind (wpAny_layCells _ (fun name kind cells=>by cases hkc:kind == NameKind.cell <;> simp [hkc]) _ _ _ _ ?_)
 rw [List.forIn_nil]
 exact wpAny_bind (wpAny_pure (wpAny_pure hQ))
section
variable {X:Cx}{pins:List (Addr × Obj)}{σ:St}{H:Hp}{s:Shared}{scope:Scope}{N:List Str}{C:Addr}{ex:List Addr}
structure CompH (X:Cx) (scope:Scope) (N:List Str) (k:Nat) (js:List Nat):Prop where
 calm:X.calm=true
 kind:scope.kind=.function
 cell:∀ x,(x,NameKind.cell)∈scope.names→scope.names.lookup x=some .cell
 free:∀ x,(x,NameKind.free)∈scope.names→(X.env.kindOf x=some .cell∨X.env.kindOf x=some .free)
 names:∀ x∈scope.names,x.2=.local→scope.names.lookup x.1=some .local
 len:N.length=k+js.length
 js:∀ i j,js[i]?=some j→∃ x,N[k+i]?=some x∧X.N[j]?=some x∧scope.names.lookup x=some .free∧Vis X.env.scope x
theorem clSub {env:Env}{ns:List (Str × NameKind)}{x:Str}{c:Addr} (h:(clOf env ns []).lookup x=some c):env.cells.lookup x=some c:=clOf_sub _ _ (fun _ _ z=>by cases z) x c h
theorem Inv.compOk (I:Inv X pins σ H s) (hk:scope.kind=.function) (hf:∀ x,(x,NameKind.free)∈scope.names→∃ c,X.env.cells.lookup x=some c) {h:Heap} (hh:h.objs.size=C+1) (hC:s.heap.objs.size≤C) (hex:∀ b∈ex,FpOk X pins H b) (hxs:∀ b∈ex,b<s.heap.objs.size) :
  (cxComp X scope N (cellsFrom h.objs.size scope.names (clOf X.env scope.names [])) s H C ex).Ok where
 mod:=I.ok.mod
 kind:=hk
 glob:=I.ok.glob
 blt:=I.ok.blt
 above:=hC
 inj:=cells_inj _ _ _ (fun x c e=>by
  obtain ⟨v,q⟩:=I.cell x c (clSub e)
  rw [hh]; exact Nat.lt_succ_of_lt (Nat.lt_of_lt_of_le q.lt hC)) fun x y c e1 e2=>I.ok.inj x y c (clSub e1) (clSub e2)
 has:=fun x h=>by
  have m:=relabel_mem (scope:=scope) (env:=X.env) (x:=x) (k:=.cell)
  have m2:=relabel_mem (scope:=scope) (env:=X.env) (x:=x) (k:=.free)
  have q:(x,NameKind.free)∈scope.names∨(x,NameKind.cell)∈scope.names:=by
   rcases h with h | h
   ·exact m h (.inl rfl)
   ·exact m2 h (.inr rfl)
  refine cells_some _ _ _ ?_
  rcases q with q | q
  ·exact .inr (clOf_has _ _ x (.inr ⟨q,hf x q⟩))
  ·exact .inl q
 cab:=fun x c h e=>by
  rcases cells_look _ _ _ e with ⟨_,q,_⟩ | ⟨q,_⟩
  ·show s.heap.objs.size≤c; omega
  ·exact absurd (of_decide_eq_true h) q
 hd:=I.ok.hd
 frames:=I.ok.frames
 stk:=.inl rfl
 exf:=fun b hb=>⟨fun z=>by
   have z':b=C:=z
   exact Nat.lt_irrefl _ (Nat.lt_of_lt_of_le (hxs b hb) (by rw [z']; exact hC)),fun x c e=>by
   rcases cells_look _ _ _ e with ⟨_,q,_⟩ | ⟨_,q⟩
   ·exact Nat.ne_of_gt (Nat.lt_of_lt_of_le (hxs b hb) (Nat.le_trans hC (Nat.le_of_lt (Nat.lt_of_lt_of_le (by rw [hh]; exact Nat.lt_succ_self C) q))))
   ·exact (hex b hb).2.2.2.2.1 x c (clSub q)⟩
 bs:=I.bs
 bsz:=Nat.le_trans I.ok.bsz I.sz
 noex:=fun b o e hb=>by
  rcases (hex b hb).2.2.2.1 with z | z
  ·exact I.ok.noex b o e z
  ·exact Nat.lt_irrefl _ (Nat.lt_of_lt_of_le (Heap.lt_size e) (Nat.le_trans I.ok.bsz z))
 exfs:=fun b hb z=>by
  rcases List.mem_cons.mp (I.stkSub b z) with q | q
  ·exact (hex b hb).2.1 q
  ·exact (hex b hb).2.2.1 q
 funs:=I.stack
 frf:=I.stkFree
theorem compLoop_go {prog:Program}{w:World}{A:Around}{R:Result→Shared→Prop}{elt target iter:Expr}{ifs:List Expr}{scope:Scope}{pos:Pos}{it acc:Value}{env:Env}{s:Shared} (J:Nat→Shared→Prop)
  (turn:∀ n s,J n s→wpAny (model prog w) A (pyNext it) (fun r s1=>match r with
   | none=>R (.ok .next) s1
   | some v=>wpAny (model prog w) A (letOwnedTupleGo target it v) (fun _ s1'=>wpAny (model prog w) A (assign target env v) (fun _ s2 =>
     wpAny (model prog w) A (forIn ifs true fun c r=>if r=true then do let ok ← isTrue c env (eval c env); pure (ForInStep.yield ok) else pure (ForInStep.yield r)) (fun ok s3 =>
      if ok=true then wpAny (model prog w) A (eval elt env) (fun x s4 =>
       wpAny (model prog w) A (call (.builtin "list.append") [acc,x]) (fun _ s5=>∃ m,m<n∧J m s5) (notedBy (model prog w) A env fun e s'=>R (.error e) s') s4) (notedBy (model prog w) A env fun e s'=>R (.error e) s') s3
      else ∃ m,m<n∧J m s3) (notedBy (model prog w) A env fun e s'=>R (.error e) s') s2) (notedBy (model prog w) A env fun e s'=>R (.error e) s') s1') (notedBy (model prog w) A env fun e s'=>R (.error e) s') s1) (notedBy (model prog w) A env fun e s'=>R (.error e) s') s)
  (n:Nat) (h:J n s) :
  codeAny (model prog w) A (.compLoop (.ListComp elt [⟨target,iter,ifs,0⟩] scope pos) 0 it acc env) R s:=by
 refine codeAny_loop rfl J (fun n s hI=>?_) n h
 show wpAny _ A ((compTurn (.ListComp elt [⟨target,iter,ifs,0⟩] scope pos) 0 it acc env).onRaise (fun x=>do noteFrame x env; theTreesLotGoes x)) _ _ s
 refine wpAny_noted ?_
 rw [compTurn_list]
 refine wpAny_bind (wpAny_standAt (wpAny_bind (wpAny_mono (turn n s hI) (fun r s1 h1=>?_) fun _ _ h'=>h')))
 cases r with
 | none=>exact wpAny_pure h1
 | some v =>
  refine wpAny_bind (wpAny_mono h1 (fun _ s1' h1'=>?_) fun _ _ h'=>h')
  refine wpAny_bind (wpAny_mono h1' (fun _ s2 h2=>wpAny_bind (wpAny_mono h2 (fun ok s3 h3=>?_) fun _ _ h'=>h')) fun _ _ h'=>h')
  cases ok with
  | false=>exact wpAny_pure ⟨rfl,h3⟩
  | true =>
   exact wpAny_bind (wpAny_bind (wpAny_mono h3 (fun x s4 h4=>wpAny_bind (wpAny_mono h4 (fun _ s5 h5=>wpAny_pure (wpAny_pure ⟨rfl,h5⟩)) fun _ _ h'=>h')) fun _ _ h'=>h'))
def PTs (X:Cx) (ifs:List Expr) (t:TT):Prop :=
 ∀ (pins:List (Addr × Obj)) (s:Shared) (σ:St) (H:Hp) (Q:Bool→Hp→Prop),Inv X pins σ H s→t σ H Q →
  wpAny (model X.prog X.w) X.A (forIn ifs true fun c r=>if r=true then do let ok ← isTrue c X.env (eval c X.env); pure (ForInStep.yield ok) else pure (ForInStep.yield r)) (TP X pins σ Q) X.xe s
noncomputable def tYes:TT:=fun _ H Q=>Q true H
theorem pts_nil {X:Cx}:PTs X [] tYes:=fun pins s σ H Q I h=>wpAny_tests_nil ⟨H,I,h⟩
theorem pts_one {X:Cx}{c:Expr}{t:TT} (h:PT X c t):PTs X [c] t:=fun pins s σ H Q I hw=>wpAny_tests_one (h pins s σ H Q I hw)
def CTurn (J:It) (D:Addr) (W:Nat→Nat→List V→Hp→Prop) (Q:Hp→Prop) (g:TG) (tc:TT) (te:TE) (σ0:St) (i m:Nat) (ys:List V) (H2:Hp):Prop :=
 H2 D=some (.lst ys)∧((J.stop i H2∧Q H2)∨(J.go i H2∧ys.length<sizeLine∧∀ x H3,J.yld i H2 x H3→g x σ0 H3 fun σ4 H4=>WeakS σ0 σ4∧tc σ4 H4 fun b H5 =>
   if b=true then te σ4 H5 fun y H6=>H6 D=some (.lst ys)∧∃ m',m'<m∧W (i+1) m' (ys++[y]) (upd H6 D (.lst (ys++[y]))) else ∃ m',m'<m∧W (i+1) m' ys H5))
noncomputable def stC (k:Nat) (js:List Nat) (σ:St):St:=List.replicate k Option.none++js.map fun j=>(σ[j]?).getD Option.none
noncomputable def tComp (wi:TI) (k:Nat) (js:List Nat) (g:TG) (tc:TT) (te:TE):TE:=fun σ H Q =>
 wi σ H fun J H1=>∀ D,H1 D=none→∃ W:Nat→Nat→List V→Hp→Prop,(∃ m,W 0 m [] (upd H1 D (.lst [])))∧∀ i m ys H2,W i m ys H2→CTurn J D W (Q (.ref D)) g tc te (stC k js σ) i m ys H2
theorem stC_get {k:Nat}{js:List Nat}{σ:St}{i:Nat}{v:V} (h:(stC k js σ)[i]?=some (some v)):∃ j,k≤i∧js[i - k]?=some j∧σ[j]?=some (some v):=by
 unfold stC at h
 by_cases hi:i<k
 ·rw [List.getElem?_append_left (by simpa using hi),List.getElem?_replicate] at h
  simp [hi] at h
 ·rw [List.getElem?_append_right (by simpa using hi),List.length_replicate,List.getElem?_map] at h
  cases e:js[i - k]? with
  | none=>rw [e] at h; simp at h
  | some j =>
   rw [e] at h
   simp only [Option.map_some,Option.some.injEq] at h
   refine ⟨j,by omega,rfl,?_⟩
   cases q:σ[j]? with
   | none=>rw [q] at h; simp at h
   | some z =>
    rw [q] at h
    simp at h
    rw [h]
theorem relabel_free {scope:Scope}{env:Env}{x:Str} (h:scope.names.lookup x=some .free):(relabel scope env).names.lookup x=some .cell∨(relabel scope env).names.lookup x=some .free:=by
 unfold relabel
 dsimp only
 generalize scope.names=ns at h
 induction ns with
 | nil=>cases h
 | cons a r ih =>
  obtain ⟨n,k⟩:=a
  rw [List.lookup_cons] at h
  rw [List.map_cons]
  cases hx:x == n with
  | true =>
   rw [hx] at h
   cases h
   dsimp only
   split
   ·exact .inl (by rw [List.lookup_cons,hx])
   ·exact .inr (by rw [List.lookup_cons,hx])
  | false =>
   rw [hx] at h
   dsimp only
   split
   ·rw [List.lookup_cons,hx]; exact ih h
   ·rw [List.lookup_cons,hx]; exact ih h
inductive CInv (Y:Cx) (σ0:St) (tn:Nat→Heap→Prop) (fp:List Addr) (W:Nat→Nat→List V→Hp→Prop) (n:Nat) (s:Shared):Prop
 | mk (i:Nat) (ys:List V) (H:Hp) (I:Inv Y [] σ0 H s) (st:tn i s.heap) (fr:∀ b∈fp,H b=none) (w:W i n ys H)
theorem comp_loop {Y:Cx}{elt iter tg:Expr}{ifs:List Expr}{scope:Scope}{pos:Pos}{g:TG}{tc:TT}{te:TE}{J:It}{fp:List Addr}{it D:Addr}{tn:Nat→Heap→Prop}{σ0:St}{W:Nat→Nat→List V→Hp→Prop}{Q:Hp→Prop}{R:Result→Shared→Prop}
  (hc:Y.calm=true) (hx:Y.xe=fun _ _=>False) (T:Turn Y.prog Y.w Y.K tg J fp it tn) (stat:∀ H',(∀ b∈fp,H' b=none)→∀ b∈fp,FpOk Y [] H' b)
  (hg:PG Y tg g) (htc:PTs Y ifs tc) (hte:PE Y elt te) (turn:∀ i m ys H2,W i m ys H2→CTurn J D W Q g tc te σ0 i m ys H2) (fin:∀ H4 s5,Inv Y [] σ0 H4 s5→Q H4→R (.ok .next) s5)
  {s:Shared}{n:Nat} (h0:CInv Y σ0 tn fp W n s) (st3:tn 0 s.heap):codeAny (model Y.prog Y.w) Y.A (.compStart (.ListComp elt [⟨tg,iter,ifs,0⟩] scope pos) 0 (.ref it) (.ref D) Y.env) R s:=by
 have loop:codeAny (model Y.prog Y.w) Y.A (.compLoop (.ListComp elt [⟨tg,iter,ifs,0⟩] scope pos) 0 (.ref it) (.ref D) Y.env) R s:=by
  refine compLoop_go (CInv Y σ0 tn fp W) ?_ n h0
  rintro n s4 ⟨i,ys,H4,I4,st4,fr4,w4⟩
  obtain ⟨hD4,hd⟩:=turn i n ys H4 w4
  rcases hd with ⟨stop,q⟩ | ⟨go,hz,step⟩
  ·refine thn (T.done Y rfl rfl rfl hc i [] s4 _ H4 _ I4 (stat _ fr4) st4 stop) fun r s5 ⟨hr,I5⟩=>?_
   subst hr
   exact fin H4 s5 I5 q
  ·refine thn (T.item Y rfl rfl rfl hc i [] s4 _ H4 _ I4 (stat _ fr4) st4 go) fun r s5 ⟨u,hr,h5⟩=>?_
   subst hr
   refine thn h5 fun _ s6 ⟨x,H6,I6,r6,y6,st6,fr6⟩=>?_
   have I6':=I6.pinned (stat _ fr6) (T.obj _ _ st6)
   have back:∀ {σ7:St}{H7:Hp}{s7:Shared}{m:Nat}{zs:List V},Inv Y ([]++pinsAt fp s6.heap) σ7 H7 s7→WeakS σ0 σ7→W (i+1) m zs H7→CInv Y σ0 tn fp W m s7:=fun {σ7 H7 s7 m zs} I7 hw w7=>by
    refine ⟨i+1,zs,H7,I7.unpinned.weak hw.1 hw.2,T.keep _ _ _ st6 fun b hb o e=>(I7.pin (b,o) (List.mem_append_right _ (List.mem_append_right _ (mem_pinsAt hb e)))).1,fun b hb=>?_,w7⟩
    obtain ⟨o,e,d⟩:=T.obj _ _ st6 b hb
    exact (I7.pin (b,o) (List.mem_append_right _ (List.mem_append_right _ (mem_pinsAt hb e)))).2.1
   have no:∀ {E:Value→Shared→Prop} (e:Value) (s':Shared),Y.xe e s'→E e s':=fun e s' z=>by rw [hx] at z; exact z.elim
   refine wpAny_mono (hg _ s6 _ H6 x u _ I6' r6 (step x H6 y6)) (fun _ s7 ⟨σ7,H7,I7,hw7,q7⟩=>?_) no
   refine wpAny_mono (htc _ s7 σ7 H7 _ I7 q7) (fun b s8 ⟨H8,I8,q8⟩=>?_) no
   cases b with
   | false =>
    obtain ⟨m',hm,w8⟩:=(show ∃ m',m'<n∧W (i+1) m' ys H8 by simpa using q8)
    rw [if_neg (by decide)]
    exact ⟨m',hm,back I8 hw7 w8⟩
   | true =>
    rw [if_pos rfl] at q8
    rw [if_pos rfl]
    refine wpAny_mono (hte _ s8 σ7 H8 _ I8 q8) (fun y s9 ⟨vy,H9,I9,r9,q9⟩=>?_) no
    obtain ⟨hD9,m',hm,w9⟩:=q9
    refine wpAny_mono (mt_append (X:=Y) _ s9 σ7 H9 (.ref D) [vy] (.ref D) [y] (fun _ H'=>W (i+1) m' (ys++[vy]) H') I9 rfl (.cons r9 .nil) ⟨_,ys,vy,rfl,rfl,hD9,hz,w9⟩) (fun z s10 ⟨_,H10,I10,_,q10⟩=>?_) no
    exact ⟨m',hm,back I10 hw7 q10⟩
 exact codeAny_compStart_list loop (T.self _ 0 _ _ _ st3 loop)
theorem comp_enter {elt iter tg:Expr}{ifs:List Expr}{pos:Pos}{k:Nat}{js:List Nat}{J:It}{fp:List Addr}{it:Addr}{tn:Nat→Heap→Prop}{H2:Hp}{s2:Shared}{RR:Value→Addr→Result→Shared→Prop}
  (B:CompH X scope N k js) (I2:Inv X pins σ H2 s2) (T:Turn X.prog X.w X.K tg J fp it tn) (st2:tn 0 s2.heap) (f2:∀ b∈fp,FpOk X pins H2 b)
  (h:∀ (cl:List (Str × Addr)) (C:Addr) (s4:Shared),s2.heap.objs.size≤C→s2.heap.objs.size≠C→Inv (cxComp X scope N cl s2 H2 C fp) [] (stC k js σ) (upd H2 s2.heap.objs.size (.lst [])) s4→tn 0 s4.heap →
   codeAny (model X.prog X.w) X.A (.compStart (.ListComp elt [⟨tg,iter,ifs,0⟩] scope pos) 0 (.ref it) (.ref s2.heap.objs.size) (compEnvC scope cl C X.env)) (RR (.ref s2.heap.objs.size) C) s4) :
  wpAny (model X.prog X.w) X.A (newList []) (fun acc s3=>wpAny (model X.prog X.w) X.A (newFunctionEnv scope X.env.globals (clOf X.env scope.names []) [] X.env.qual none .none (some X.env)) (fun cenv s4 =>
   codeAny (model X.prog X.w) X.A (.compStart (.ListComp elt [⟨tg,iter,ifs,0⟩] scope pos) 0 (.ref it) acc { cenv with scope:=relabel scope X.env }) (RR acc cenv.locals) s4) X.xe s3) X.xe s2:=by
 have hcell:∀ x,(x,NameKind.free)∈scope.names→∃ c,X.env.cells.lookup x=some c:=fun x hx=>I2.ok.has x (B.free x hx)
 refine wpAny_newObj_type (wpAny_blockEnv ?_)
 dsimp only
 generalize hP:s2.heap.push { cls:=.type "list",dict:=none,data:=.seq ([]:List Value).toArray }=P
 have hPs:P.objs.size=s2.heap.objs.size+1:=by rw [← hP,Heap.size_push]
 have hDC:s2.heap.objs.size≠P.objs.size:=by rw [hPs]; exact Nat.ne_of_lt (Nat.lt_succ_self _)
 have hCle:s2.heap.objs.size≤P.objs.size:=by rw [hPs]; exact Nat.le_succ _
 generalize hP2:P.push { cls:=.type "dict",data:=.dict #[] }=P2
 have hP2s:P2.objs.size=P.objs.size+1:=by rw [← hP2,Heap.size_push]
 have hns1:(pushCells P2 scope.names).Ns P.objs.size (fun _=>none):=(hP2▸Heap.Ns.new P (.type "dict")).keeps (pushCells_keeps _ _)
 have old:∀ b o,s2.heap.get? b=some o→(pushCells P2 scope.names).get? b=some o:=fun b o e=>pushCells_keeps _ _ _ _ (hP2▸Heap.get?_push_of_some _ (hP▸Heap.get?_push_of_some _ e))
 have hacc:(pushCells P2 scope.names).get? s2.heap.objs.size=some { cls:=.type "list",dict:=none,data:=.seq ([]:List Value).toArray }:=pushCells_keeps _ _ _ _ (hP2▸Heap.get?_push_of_some _ (hP▸Heap.get?_push_size _ rfl))
 have hfx:∀ b∈fp,b<s2.heap.objs.size:=fun b hb=>by
  obtain ⟨o,e,_⟩:=T.obj _ _ st2 b hb
  exact Heap.lt_size e
 have ok:=I2.compOk (N:=N) (C:=P.objs.size) (ex:=fp) B.kind hcell hP2s hCle f2 hfx
 refine h (cellsFrom P2.objs.size scope.names (clOf X.env scope.names [])) P.objs.size _ hCle hDC ?_ (T.keep _ _ _ st2 fun b _ o e=>old b o e)
 refine ⟨ok,rfl,I2.bare,Un.laid old (Nat.le_refl _) (I2.hok.fresh (Nat.le_refl _)),⟨_,hns1,fun i x v e1 e2 e3=>?_⟩,fun x c e=>?_,?_,fun x c e=>?_,fun p hp=>(by cases hp),I2.hok.laid old (Nat.le_refl _) ?_,?_⟩
 ·obtain ⟨j,hki,hj,hv⟩:=stC_get e2
  obtain ⟨y,n1,n2,n3,n4⟩:=B.js _ j hj
  have ei:k+(i - k)=i:=by omega
  rw [ei] at n1
  have e1':N[i]?=some x:=e1
  rw [n1] at e1'
  cases e1'
  obtain ⟨m,hn,hl⟩:=I2.loc
  obtain ⟨u,r,lk⟩:=hl j x v n2 hv n4
  refine ⟨u,r,?_⟩
  have mem:=mem_of_look n3
  rcases lk with ⟨kk,_⟩ | ⟨kk,c,ec,ce⟩
  ·rcases B.free x mem with z | z
   ·rw [z] at kk; cases kk
   ·rw [z] at kk; cases kk
  ·obtain ⟨c0,ec0⟩:=cells_some scope.names P2.objs.size _ (.inr (clOf_has (env:=X.env) scope.names [] x (.inr ⟨mem,c,ec⟩)))
   have hc0:c0=c:=by
    rcases cells_look _ _ _ ec0 with ⟨q,_⟩ | ⟨_,q⟩
    ·have:=B.cell x q; rw [n3] at this; cases this
    ·have:=clSub q; rw [ec] at this; cases this; rfl
   subst hc0
   refine .inr ⟨relabel_free n3,c0,ec0,?_⟩
   obtain ⟨o,ho,hd⟩:=ce
   exact ⟨o,old _ _ ho,hd⟩
 ·rcases cells_look _ _ _ e with ⟨_,_,q⟩ | ⟨_,q⟩
  ·exact ⟨_,q⟩
  ·obtain ⟨v,o,ho,hd⟩:=I2.cell x c (clSub q)
   exact ⟨v,o,old _ _ ho,hd⟩
 ·show upd H2 s2.heap.objs.size (.lst []) P.objs.size=none
  rw [upd_ne (Ne.symm hDC)]
  exact I2.hok.fresh hCle
 ·rcases cells_look _ _ _ e with ⟨_,q,_⟩ | ⟨_,q⟩
  ·have hlt:s2.heap.objs.size<c:=Nat.lt_of_lt_of_le (by rw [hP2s,hPs]; omega) q
   rw [upd_ne (Nat.ne_of_gt hlt)]
   exact I2.hok.fresh (Nat.le_of_lt hlt)
  ·obtain ⟨v,o,ho,hd⟩:=I2.cell x c (clSub q)
   rw [upd_ne (Nat.ne_of_lt (Heap.lt_size ho))]
   exact I2.freeC x c (clSub q)
 ·exact ⟨Nat.zero_le _,[],_,.nil,hacc⟩
 ·unfold stC
  rw [List.length_append,List.length_replicate,List.length_map]
  exact B.len.symm
theorem comp_run {elt iter tg:Expr}{ifs:List Expr}{pos:Pos}{k:Nat}{js:List Nat}{g:TG}{tc:TT}{te:TE}{J:It}{fp:List Addr}{it:Addr}{tn:Nat→Heap→Prop}{H2:Hp}{s2:Shared}{RR:Value→Addr→Result→Shared→Prop}{Q:V→Hp→Prop}
  (B:CompH X scope N k js) (I2:Inv X pins σ H2 s2) (T:Turn X.prog X.w X.K tg J fp it tn) (st2:tn 0 s2.heap) (f2:∀ b∈fp,FpOk X pins H2 b)
  (hg:∀ cl s H C ex,PG (cxComp X scope N cl s H C ex) tg g) (htc:∀ cl s H C ex,PTs (cxComp X scope N cl s H C ex) ifs tc) (hte:∀ cl s H C ex,PE (cxComp X scope N cl s H C ex) elt te)
  (hW:∀ D,H2 D=none→∃ W:Nat→Nat→List V→Hp→Prop,(∃ m,W 0 m [] (upd H2 D (.lst [])))∧∀ i m ys H2,W i m ys H2→CTurn J D W (Q (.ref D)) g tc te (stC k js σ) i m ys H2)
  (fin:∀ cl C H4 s5,s2.heap.objs.size≤C→s2.heap.objs.size≠C→Inv (cxComp X scope N cl s2 H2 C fp) [] (stC k js σ) H4 s5→Q (.ref s2.heap.objs.size) H4→RR (.ref s2.heap.objs.size) C (.ok .next) s5) :
  wpAny (model X.prog X.w) X.A (newList []) (fun acc s3=>wpAny (model X.prog X.w) X.A (newFunctionEnv scope X.env.globals (clOf X.env scope.names []) [] X.env.qual none .none (some X.env)) (fun cenv s4 =>
   codeAny (model X.prog X.w) X.A (.compStart (.ListComp elt [⟨tg,iter,ifs,0⟩] scope pos) 0 (.ref it) acc { cenv with scope:=relabel scope X.env }) (RR acc cenv.locals) s4) X.xe s3) X.xe s2:=by
 obtain ⟨W,⟨m0,w0⟩,turn⟩:=hW s2.heap.objs.size (I2.hok.fresh (Nat.le_refl _))
 refine comp_enter B I2 T st2 f2 fun cl C s4 h1 h2 I4 st4=>?_
 refine comp_loop (Y:=cxComp X scope N cl s2 H2 C fp) B.calm rfl T (fun H' hn b hb=>⟨hn b hb,(I4.ok.exf b hb).1,I4.ok.exfs b hb,.inl hb,(I4.ok.exf b hb).2,fun p hp=>by cases hp⟩) (hg _ _ _ _ _) (htc _ _ _ _ _) (hte _ _ _ _ _) turn (fun H4 s5 I5 q=>fin cl C H4 s5 h1 h2 I5 q) (n:=m0) ⟨0,[],_,I4,st4,fun b hb=>?_,w0⟩ st4
 obtain ⟨o,e,_⟩:=T.obj _ _ st2 b hb
 rw [upd_ne (Nat.ne_of_lt (Heap.lt_size e))]
 exact (f2 b hb).1
theorem pe_comp {elt iter tg:Expr}{ifs:List Expr}{pos:Pos}{wi:TI}{g:TG}{tc:TT}{te:TE}{k:Nat}{js:List Nat} (B:CompH X scope N k js) (hi:PI X tg iter wi)
  (hg:∀ cl s H C ex,PG (cxComp X scope N cl s H C ex) tg g) (htc:∀ cl s H C ex,PTs (cxComp X scope N cl s H C ex) ifs tc) (hte:∀ cl s H C ex,PE (cxComp X scope N cl s H C ex) elt te)
  (hs:∀ x,foldedSetIterable iter X.env x=pure x:=by intro _; rfl):PE X (.ListComp elt [⟨tg,iter,ifs,0⟩] scope pos) (tComp wi k js g tc te):=by
 intro pins s σ H Q I h
 rw [eval_ListComp]
 refine wpAny_comprehension_free (use:=none) rfl hs (closureFor_ok fun x hx=>I.ok.has x (B.free x hx)) B.kind B.names (thn (hi pins s σ H _ I h) fun v s1 h1=>thn h1 fun itv s2 h2=>?_)
 obtain ⟨it,fp,tn,J,H2,e,I2,T,st2,f2,hW⟩:=h2
 subst e
 refine comp_run B I2 T st2 f2 hg htc hte hW fun cl C H4 s5 hCle hDC I5 q=>?_
 obtain ⟨m,hn,_⟩:=id I5.loc
 have hC4:H4 C=none:=I5.free
 refine ⟨m,hn,fun h' hs'=>⟨.ref s2.heap.objs.size,H4,?_,rfl,q⟩⟩
 have bl:∀ b o,s2.heap.get? b=some o→b≠C:=fun b o e=>Nat.ne_of_lt (Nat.lt_of_lt_of_le (Heap.lt_size e) hCle)
 refine I2.call' (s':={ s5 with heap:=h' }) (ch:=fp) I5.os ?_ (fun b u e=>?_) I5.bare (fun b hb=>⟨(f2 b hb).2.2.2.1,(f2 b hb).2.1,(f2 b hb).2.2.2.2.1,(f2 b hb).2.2.2.2.2⟩)
 ·have U:=I5.base
  exact ⟨fun b o e n hb hx=>(hs'.2 b (bl b o e)).trans (U.keep b o e n hb hx),fun b o e n hb hx=>by
    obtain ⟨sl,z⟩:=U.slot b o e n hb hx
    exact ⟨sl,(hs'.2 b (bl b o e)).trans z⟩,U.free,fun b o e hx=>by
    obtain ⟨o',z⟩:=U.there b o e hx
    exact ⟨o',(hs'.2 b (bl b o e)).trans z⟩,U.tups,U.frzs,U.tbls⟩
 ·refine (I5.hok b u e).stay (fun c w' hcc q'=>(hs'.2 c ?_).trans q') (fun _ q'=>q') fun _ _ q'=>q'
  rintro rfl
  rcases hcc with rfl | hcc
  ·rw [hC4] at e; cases e
  ·rw [hC4] at hcc; cases hcc
end
theorem same_new {H:Hp}{p:Addr} (h:H p=none) (o:HO):Same H (upd H p o):=fun b u q=>by rw [upd_ne (ne_of_none q h)]; exact q
theorem Same.tup {K:W.Frag}{H H':Hp}{a:Addr}{xs:List V} (e:Same H H') (h:SqT K H a xs):SqT K H' a xs:=by
 rcases h with (h | ⟨o,h⟩) | h
 ·exact .inl (.inl (e _ _ h))
 ·exact .inl (.inr ⟨o,e _ _ h⟩)
 ·exact .inr h
section
variable {X:Cx}{pins:List (Addr × Obj)}{σ:St}{H:Hp}{s:Shared}
theorem Inv.yields {wr:List Addr}{h':Heap}{tk:Nat}{T:Addr}{xs:List V}{its:List Value} (I:Inv X pins σ H s) (hf:∀ b∈wr,FpOk X pins H b) (k:∀ b o,b∉wr→s.heap.get? b=some o→h'.get? b=some o)
  (hT:s.heap.objs.size≤T) (r:Vals xs its) (hz:xs.length≤sizeLine) (ht:IsTup h' T its.toArray):Inv X pins σ (upd H T (.tup xs)) { s with heap:=h',toks:=tk }:=by
 have nT:∀ b o,s.heap.get? b=some o→b≠T:=fun b o e=>Nat.ne_of_lt (Nat.lt_of_lt_of_le (Heap.lt_size e) hT)
 have hH:∀ b u,H b=some u→b≠T:=fun b u e=>Nat.ne_of_lt (Nat.lt_of_lt_of_le (I.hok.lt e) hT)
 have nw:∀ b u,H b=some u→b∉wr:=fun b u e hb=>by rw [(hf b hb).1] at e; cases e
 refine I.call' (s':={ s with heap:=h',toks:=tk }) (ch:=wr) rfl ⟨fun b o e n _ hx=>k b o hx e,fun b o e n _ hx=>⟨o.slots,k b o hx e⟩,fun b o e n _=>?_,fun b o e hx=>⟨o,k b o hx e⟩,fun b ys e=>?_,fun b o u e=>?_,fun b ps e=>⟨#[],?_⟩⟩ (fun b u e=>?_) I.bare
  (fun b hb=>⟨(hf b hb).2.2.2.1,(hf b hb).2.1,(hf b hb).2.2.2.2.1,(hf b hb).2.2.2.2.2⟩)
 ·rw [upd_ne (nT b o e)]; exact n
 ·rw [upd_ne (hH b _ e)]; exact e
 ·rw [upd_ne (hH b _ e)]; exact e
 ·rw [upd_ne (hH b _ e),e]; simp
 ·by_cases hb:b=T
  ·subst hb
   rw [upd_same] at e
   cases e
   exact ⟨hz,its,r,ht⟩
  ·rw [upd_ne hb] at e
   refine (I.hok b u e).stay (fun c v hc q=>k c v ?_ q) (fun c q=>?_) fun c ys q=>?_
   ·rcases hc with rfl | hc
    ·exact nw _ _ e
    ·exact nw _ _ hc
   ·rw [upd_ne (hH c _ q)]; exact q
   ·rw [upd_ne (hH c _ q)]; exact q
theorem Inv.turnedL {wr:List Addr}{h':Heap}{tk:Nat} (I:Inv X pins σ H s) (hf:∀ b∈wr,FpOk X pins H b) (k:∀ b o,b∉wr→s.heap.get? b=some o→h'.get? b=some o):Inv X pins σ H { s with heap:=h',toks:=tk }:=by
 have nw:∀ b u,H b=some u→b∉wr:=fun b u e hb=>by rw [(hf b hb).1] at e; cases e
 refine I.call' (s':={ s with heap:=h',toks:=tk }) (ch:=wr) rfl ⟨fun b o e n _ hx=>k b o hx e,fun b o e n _ hx=>⟨o.slots,k b o hx e⟩,fun b o e n _=>n,fun b o e hx=>⟨o,k b o hx e⟩,fun b ys e=>e,fun b o u e=>e,fun b ps e=>⟨#[],by rw [e]; simp⟩⟩ (fun b u e=>?_) I.bare
  (fun b hb=>⟨(hf b hb).2.2.2.1,(hf b hb).2.1,(hf b hb).2.2.2.2.1,(hf b hb).2.2.2.2.2⟩)
 refine (I.hok b u e).stay (fun c v hc q=>k c v ?_ q) (fun c q=>q) fun c ys q=>q
 rcases hc with rfl | hc
 ·exact nw _ _ e
 ·exact nw _ _ hc
end
section
variable {X:Cx}
theorem call_range2:CallR X (.type "range") (fun vs H Q=>∃ i j:Int,vs=[.int i,.int j]∧∀ p,H p=none→Q (.ref p) (upd H p (.rng i j))):=by
 intro pins s σ H xs us Q I r h
 obtain ⟨i,j,rfl,q⟩:=h
 obtain ⟨u,v,rfl,ru,rv⟩:=vals2 r
 obtain ⟨t,rfl⟩:=ru
 obtain ⟨t',rfl⟩:=rv
 refine call_range_2 ⟨.ref s.heap.objs.size,_,I.laid (o:=.rng i j) (fun b o e=>Heap.get?_push_of_some _ e) (Nat.le_refl _) ?_,rfl,q _ (I.hok.fresh (Nat.le_refl _))⟩
 exact ⟨_,_,_,Heap.get?_push_size _ rfl⟩
theorem call_range1:CallR X (.type "range") (fun vs H Q=>∃ j:Int,vs=[.int j]∧∀ p,H p=none→Q (.ref p) (upd H p (.rng 0 j))):=by
 intro pins s σ H xs us Q I r h
 obtain ⟨j,rfl,q⟩:=h
 obtain ⟨u,rfl,ru⟩:=vals1 r
 obtain ⟨t,rfl⟩:=ru
 refine call_range_1 ⟨.ref s.heap.objs.size,_,I.laid (o:=.rng 0 j) (fun b o e=>Heap.get?_push_of_some _ e) (Nat.le_refl _) ?_,rfl,q _ (I.hok.fresh (Nat.le_refl _))⟩
 exact ⟨_,_,_,Heap.get?_push_size _ rfl⟩
noncomputable def upV (lo:Int) (n:Nat):List V:=(List.range n).map fun k=>V.int (lo+(k:Nat))
theorem vals_up {lo:Int}{n:Nat}{acc:Array Value} (h:ItemsOf (fun i v=>∃ t,v=.int (lo+i*1) t) acc n):Vals (upV lo n) acc.toList:=by
 obtain ⟨hs,h⟩:=h
 have key:∀ (k:Nat) (us:List Value) (lo:Int),us.length=k→(∀ (i:Nat) (v:Value),us[i]?=some v→∃ t,v=Value.int (lo+(i:Nat)) t)→Vals ((List.range k).map fun j=>V.int (lo+(j:Nat))) us:=by
  intro k
  induction k with
  | zero=>intro us lo hl _; cases us with
   | nil=>exact .nil
   | cons a r=>simp at hl
  | succ k ih =>
   intro us lo hl hh
   cases us with
   | nil=>simp at hl
   | cons a r =>
    rw [List.range_succ_eq_map,List.map_cons,List.map_map]
    refine .cons ?_ ?_
    ·obtain ⟨t,e⟩:=hh 0 a rfl
     exact ⟨t,e⟩
    ·have:=ih r (lo+1) (by simpa using hl) fun i v e=>by
      obtain ⟨t,q⟩:=hh (i+1) v (by simpa using e)
      exact ⟨t,by rw [q]; congr 1; omega⟩
     have e:((fun (j:Nat)=>V.int (lo+(j:Nat)))∘Nat.succ)=fun (j:Nat)=>V.int (lo+1+(j:Nat)):=by
      funext j
      simp only [Function.comp]
      congr 1
      omega
     rw [e]
     exact this
 exact key n acc.toList lo (by simpa using hs) fun i v e=>by
  obtain ⟨t,q⟩:=h i v (by simpa using e)
  exact ⟨t,by rw [q,Int.mul_one]⟩
theorem call_list_rng (hc:X.calm=true):CallR X (.type "list") (fun vs H Q=>∃ p i j,vs=[.ref p]∧H p=some (.rng i j)∧-(2 ^ 62)≤i∧i<2 ^ 62∧-(2 ^ 62)≤j∧j<2 ^ 62∧(j - i).toNat≤1000∧∀ l,H l=none→Q (.ref l) (upd H l (.lst (upV i (j - i).toNat)))):=by
 intro pins s σ H xs us Q I r h
 obtain ⟨p,i,j,rfl,hp,b1,b2,b3,b4,hn,q⟩:=h
 obtain ⟨u,rfl,ru⟩:=vals1 r
 cases ru
 obtain ⟨t,u,v,e⟩:=(show ObjOk X.prog X.w H s.heap p (.rng i j) from I.hok _ _ hp)
 refine call_list_range (n:=(j - i).toNat) (I.ok.hd hc) (show IsRange s.heap p i j 1 t u v from e) (small_one b1 b2 b3 b4) (by rw [rangeSize_one]; split <;> omega) (Nat.le_trans hn (by decide)) fun h' tk acc' c' hk he hi=>?_
 have hv:=vals_up hi
 refine ⟨.ref s.heap.objs.size,_,I.laid (o:=.lst (upV i (j - i).toNat)) hk (Nat.le_refl _) ⟨?_,acc'.toList,c',hv,by simpa using he⟩,rfl,q _ (I.hok.fresh (Nat.le_refl _))⟩
 unfold upV
 rw [List.length_map,List.length_range]
 exact Nat.le_trans hn (by decide)
noncomputable def rInsert:V→List V→Hp→VK→Prop:=fun x vs H Q=>∃ (l:Addr) (xs:List V) (i:Nat) (y:V),x=.ref l∧vs=[.int i,y]∧H l=some (.lst xs)∧xs.length<1000∧i≤xs.length∧Q .non (upd H l (.lst (xs.take i++y::xs.drop i)))
theorem mt_insert:MtM X "list.insert" rInsert:=by
 intro pins s σ H x vs v us Q I rx rv h
 obtain ⟨l,xs,i,y,rfl,rfl,hH,hz,hi,q⟩:=h
 cases rx
 obtain ⟨u1,u2,rfl,r1,r2⟩:=rv.two
 obtain ⟨t,rfl⟩:=r1
 obtain ⟨z,its,n,r,hl,e⟩:=I.lstM hH
 generalize hx:((i:Nat):Int)=x
 have hx0:0≤x:=by omega
 have hx1:x.toNat=i:=by omega
 have hfit:¬ (!Builtin.List.listFitsIndex x)=true:=by
  rw [fitsIndex_both (by omega) (by omega)]
  exact Bool.false_ne_true
 have hsz:its.toArray.size≤sizeLine:=by rw [List.size_toArray,← hl]; exact z
 refine call_meets F.slot_list_insert ⟨_,e,rfl⟩ F.entry_list_insert (F.args_list_insert_3 _ _ _) (PySem.AutoSeq1.list_insert_list_int_val_1 l _ n x t u2 hfit hsz) ⟨e,?_⟩
 refine ⟨.non,_,I.lset (its':=its.take i++u2::its.drop i) hH e ?_ ((r.take i).append (.cons r2 (r.drop i))) ?_,rfl,q⟩
 ·have hk:(if x<0 then (x+((its.toArray.size:Nat):Int)).toNat else min x.toNat its.toArray.size)=i:=by
   rw [if_neg (by omega),List.size_toArray]
   omega
  show (its.toArray.extract 0 (if x<0 then (x+((its.toArray.size:Nat):Int)).toNat else min x.toNat its.toArray.size)).push u2++its.toArray.extract (if x<0 then (x+((its.toArray.size:Nat):Int)).toNat else min x.toNat its.toArray.size)=_
  rw [hk]
  apply Array.ext'
  simp
  exact List.take_of_length_le (by rw [List.length_drop]; exact Nat.le_refl _)
 ·rw [List.length_append,List.length_cons,List.length_take,List.length_drop]
  have:(1000:Nat)≤sizeLine:=by decide
  omega
theorem truth_bools {A:Around}{prog:Program}{w:World}{bs:List Bool}{its:List Value} (r:Vals (bs.map V.bl) its):TruthOf prog w A (fun i v=>its.toArray[i]?=some v) (fun i=>bs.getD i false):=by
 intro i v s Q E hv hq
 have hv':its[i]?=some v:=by simpa using hv
 have hl:i<bs.length:=by
  have h1:=(List.getElem?_eq_some_iff.mp hv').1
  have h2:=r.length
  rw [List.length_map] at h2
  omega
 obtain ⟨u,e,ru⟩:=Vals.get r (i:=i) (x:=.bl bs[i]) (by rw [List.getElem?_map,List.getElem?_eq_getElem hl]; rfl)
 rw [e] at hv'
 cases hv'
 have ru':v=Value.bool bs[i]:=ru
 subst ru'
 have eq:bs.getD i false=bs[i]:=by simp [List.getD,hl]
 have hq':Q (bs.getD i false) s:=hq
 rw [eq] at hq'
 exact wpAny_truthy_bool hq'
theorem range_all (bs:List Bool):(List.range bs.length).all (fun i=>bs.getD i false)=bs.all id:=by
 induction bs with
 | nil=>rfl
 | cons b r ih =>
  rw [List.length_cons,List.range_succ_eq_map,List.all_cons,List.all_map,List.all_cons]
  show (b&&(List.range r.length).all ((fun i=>(b::r).getD i false)∘Nat.succ))=(b&&r.all id)
  rw [← ih]
  rfl
theorem range_any (bs:List Bool):(List.range bs.length).any (fun i=>bs.getD i false)=bs.any id:=by
 induction bs with
 | nil=>rfl
 | cons b r ih =>
  rw [List.length_cons,List.range_succ_eq_map,List.any_cons,List.any_map,List.any_cons]
  show (b||(List.range r.length).any ((fun i=>(b::r).getD i false)∘Nat.succ))=(b||r.any id)
  rw [← ih]
  rfl
theorem call_allL (hc:X.calm=true):CallR X (.builtin "all") (fun vs H Q=>∃ (p:Addr) (bs:List Bool),vs=[.ref p]∧SqL X.K H p (bs.map V.bl)∧Q (.bl (bs.all id)) H):=by
 intro pins s σ H xs us Q I r h
 obtain ⟨p,bs,rfl,hq,q⟩:=h
 obtain ⟨u,rfl,ru⟩:=vals1 r
 cases ru
 obtain ⟨its,rv,pl,hz⟩:=I.list hq
 have hlt:p<s.heap.objs.size:=by obtain ⟨_,e,_⟩:=pl.isList; exact Heap.lt_size e
 have hlen:=rv.length
 rw [List.length_map] at hlen
 refine call_all_walk (wpAny_pyIter_list pl.isList ?_)
 refine ⟨s.heap.objs.size,_,[s.heap.objs.size],_,_,_,_,rfl,Walks.list (A:=X.A.in1) (show X.A.in1.handled=none from I.ok.hd hc) s.heap.objs.size p (Nat.ne_of_lt hlt) its.toArray,⟨⟨_,Heap.get?_push_size _ rfl,rfl,rfl⟩,pl.isList.push _⟩,truth_bools rv,fun h' tk kk=>?_⟩
 have e:(List.range its.toArray.size).all (fun i=>bs.getD i false)=bs.all id:=by rw [List.size_toArray,← hlen]; exact range_all bs
 rw [e]
 refine ⟨.bl (bs.all id),H,?_,rfl,q⟩
 exact I.kept (t':=tk) fun b o eb=>kk b o (by simp only [List.mem_singleton]; exact Nat.ne_of_lt (Heap.lt_size eb)) (Heap.get?_push_of_some _ eb)
theorem call_anyL (hc:X.calm=true):CallR X (.builtin "any") (fun vs H Q=>∃ (p:Addr) (bs:List Bool),vs=[.ref p]∧SqL X.K H p (bs.map V.bl)∧Q (.bl (bs.any id)) H):=by
 intro pins s σ H xs us Q I r h
 obtain ⟨p,bs,rfl,hq,q⟩:=h
 obtain ⟨u,rfl,ru⟩:=vals1 r
 cases ru
 obtain ⟨its,rv,pl,hz⟩:=I.list hq
 have hlt:p<s.heap.objs.size:=by obtain ⟨_,e,_⟩:=pl.isList; exact Heap.lt_size e
 have hlen:=rv.length
 rw [List.length_map] at hlen
 refine call_any_walk (wpAny_pyIter_list pl.isList ?_)
 refine ⟨s.heap.objs.size,_,[s.heap.objs.size],_,_,_,_,rfl,Walks.list (A:=X.A.in1) (show X.A.in1.handled=none from I.ok.hd hc) s.heap.objs.size p (Nat.ne_of_lt hlt) its.toArray,⟨⟨_,Heap.get?_push_size _ rfl,rfl,rfl⟩,pl.isList.push _⟩,truth_bools rv,fun h' tk kk=>?_⟩
 have e:(List.range its.toArray.size).any (fun i=>bs.getD i false)=bs.any id:=by rw [List.size_toArray,← hlen]; exact range_any bs
 rw [e]
 refine ⟨.bl (bs.any id),H,?_,rfl,q⟩
 exact I.kept (t':=tk) fun b o eb=>kk b o (by simp only [List.mem_singleton]; exact Nat.ne_of_lt (Heap.lt_size eb)) (Heap.get?_push_of_some _ eb)
theorem op_is_bl:OpR X (compareOp .Is) (fun x y H Q=>∃ a b,x=.bl a∧y=.bl b∧Q (.bl (a == b)) H):=by
 intro pins s σ H x y v u Q I rx ry h
 obtain ⟨a,b,rfl,rfl,q⟩:=h
 cases rx
 cases ry
 exact is_bool ⟨.bl (a == b),H,I,rfl,q⟩
theorem op_isnot_bl:OpR X (compareOp .IsNot) (fun x y H Q=>∃ a b,x=.bl a∧y=.bl b∧Q (.bl (a != b)) H):=by
 intro pins s σ H x y v u Q I rx ry h
 obtain ⟨a,b,rfl,rfl,q⟩:=h
 cases rx
 cases ry
 exact isnot_bool ⟨.bl (a != b),H,I,rfl,q⟩
end
section
variable {X:Cx}
noncomputable def rCatT2 (K:W.Frag):R2:=fun x y H Q=>∃ a b xs ys,x=.ref a∧y=.ref b∧H a=some (.tup xs)∧H b=some (.tup ys)∧xs.length+ys.length≤sizeLine∧∀ p H1,Same H H1→H1 p=some (.tup (xs++ys))→Q (.ref p) H1
theorem op_catT2:OpR X (binaryOp .Add) (rCatT2 X.K):=by
 intro pins s σ H x y v u Q I rx ry h
 obtain ⟨a,b,xs,ys,rfl,rfl,ha,hb,hz,q⟩:=h
 by_cases hx:xs=[]
 ·subst hx
  cases rx
  cases ry
  obtain ⟨its,r1,p1,_⟩:=I.tuple (SqT.of ha)
  obtain ⟨its2,r2,p2,_⟩:=I.tuple (SqT.of hb)
  have e:its=[]:=(r1.nil_iff).mpr rfl
  subst e
  obtain ⟨⟨cls,dd,data,sl⟩,ho,hc,n,hd⟩:=id p1
  obtain ⟨⟨cls2,dd2,data2,sl2⟩,ho2,hc2,n2,hd2⟩:=id p2
  simp only at hc hd hc2 hd2
  subst hc hd hc2 hd2
  exact concat_meets ⟨_,ho,rfl⟩ ⟨_,ho2,rfl⟩ noFill_tuple_add seq_tuple_add PySem.F.slot_tuple_add PySem.F.entry_tuple_add (PySem.F.args_tuple_add_2 _ _)
   (tuple_addW0 a b ([]:List Value).toArray its2.toArray n n2 dd dd2 sl sl2 (by simp)) ⟨ho,ho2,⟨.ref b,H,I,rfl,q b H (Same.refl H) hb⟩⟩
 ·refine op_catT pins s σ H (.ref a) (.ref b) v u Q I rx ry ⟨a,b,xs,ys,rfl,rfl,SqT.of ha,SqT.of hb,hx,hz,fun e=>?_,fun _ p hp=>q p _ (same_new hp _) upd_same⟩
  subst e
  exact q a H (Same.refl H) (by rw [List.append_nil]; exact ha)
theorem cutV_whole (xs:List V) (lo hi:Option Int) (h:HT.sIx xs.length 0 lo=0∧HT.sIx xs.length xs.length hi=xs.length):cutV xs lo hi=xs:=by
 unfold cutV
 rw [h.1,h.2,List.drop_zero,Nat.sub_zero,List.take_length]
theorem getItem_tuple_whole {prog:Program}{w:World}{A:Around}{E:Value→Shared→Prop}{s:Shared}{t sl:Addr}{items:Array Value}{vl vu:Value}{lo hi:Option Int}{Q:Value→Shared→Prop} (ht:IsTup s.heap t items) (hs:s.heap.IsSliceOf sl vl vu .none) (pl:IsPart vl lo) (pu:IsPart vu hi)
  (hw:HT.sIx items.size 0 lo=0∧HT.sIx items.size items.size hi=items.size)
  (h:Q (.ref t) s):wpAny (model prog w) A (getItem (.ref t) (.ref sl)) Q E s:=by
 obtain ⟨os,hos,hcs,hds⟩:=id hs
 have hTs:s.TypeIs (.ref sl) "slice":=⟨os,hos,hcs⟩
 unfold getItem
 try with_reducible refine wpAny_holding ?_
 first | refine wpAny_bind (wpAny_pure ?_) | skip
 refine wpAny_bind (wpAny_sequenceKey ht.typeIs (by decide) ?_)
 refine wpAny_bind (wpAny_callSpecial?_slot (name:=Str.ofString "__getitem__") ht.typeIs PyProof.Rows.slot_tuple_getitem
  (wpAny_call_entry PyProof.Rows.slot_tuple_getitem ht.typeIs entry_tuple_getitem ?_ (args_tuple_getitem _ _)))
 show wpAny _ _ (Builtin.Tuple.tupleItemsOf (.ref t) >>= _) _ _ s
 refine wpAny_bind (tupleItemsOf_ ht ?_)
 refine wpAny_bind (wpAny_typeOf hTs ?_)
 rw [if_pos (by decide)]
 refine wpAny_bind (HT.sliceApplied_gen hs pl pu ?_)
 have hyes:(((HT.sIx items.size 0 lo:Nat):Int) == 0&&(1:Int) == 1&&(HT.sIx items.size items.size hi - HT.sIx items.size 0 lo) == items.size)=true:=by
  rw [hw.1,hw.2]
  simp
 show wpAny _ _ (if (((HT.sIx items.size 0 lo:Nat):Int) == 0&&(1:Int) == 1&&(HT.sIx items.size items.size hi - HT.sIx items.size 0 lo) == items.size)=true then _ else _) _ _ s
 rw [if_pos hyes]
 have hEx:Builtin.Tuple.tupleIsExact (Value.ref t)=(typeOf (Value.ref t) >>= fun c=>pure (c == .type "tuple")):=rfl
 rw [hEx]
 refine wpAny_bind (wpAny_bind (wpAny_typeOf ht.typeIs (wpAny_pure ?_)))
 rw [if_pos (by decide)]
 exact wpAny_bind (wpAny_rule (wpAny_pure ⟨_,rfl,wpAny_pure h⟩))
noncomputable def rSlT2 (K:W.Frag):V→Option Int→Option Int→Hp→VK→Prop:=fun x lo hi H Q=>∃ a xs,x=.ref a∧H a=some (.tup xs)∧∀ p H1,Same H H1→H1 p=some (.tup (cutV xs lo hi))→Q (.ref p) H1
theorem sl_tup2:SlR X (rSlT2 X.K):=by
 intro pins s σ H x v vl vu lo hi sl Q I rx hs pl pu h
 obtain ⟨a,xs,rfl,hx,q⟩:=h
 by_cases hw:HT.sIx xs.length 0 lo=0∧HT.sIx xs.length xs.length hi=xs.length
 ·cases rx
  obtain ⟨its,r,ht,hz⟩:=I.tuple (SqT.of hx)
  have hlen:its.toArray.size=xs.length:=by rw [List.size_toArray]; exact r.length.symm
  refine ⟨"tuple",_,PyProof.Rows.slot_tuple_getitem.lookup,ht.typeIs,?_⟩
  exact getItem_tuple_whole ht hs pl pu (by rw [hlen]; exact hw) ⟨.ref a,H,I,rfl,q a H (Same.refl H) (by rw [cutV_whole xs lo hi hw]; exact hx)⟩
 ·exact sl_tup pins s σ H (.ref a) v vl vu lo hi sl Q I rx hs pl pu ⟨a,xs,rfl,SqT.of hx,hw,fun p hp=>q p _ (same_new hp _) upd_same⟩
end
section
variable {X:Cx}{a b c d:Expr}{ta tb tc td:TE}{pos:Pos}
theorem pt_chain3 {op op' op2:CmpOp}{r r' r2:R2} (ho:OpR X (compareOp op) r) (ho':OpR X (compareOp op') r') (ho2:OpR X (compareOp op2) r2) (ha:PE X a ta) (hb:PE X b tb) (hc:PE X c tc) (hd:PE X d td)
  (hm:lastMarks [op,op',op2] [b,c,d]=false:=by with_unfolding_all rfl):PT X (.Compare a [op,op',op2] [b,c,d] pos) (fun σ H Q=>ta σ H fun x H1=>tb σ H1 fun y H2=>r x y H2 fun z H3=>∃ k,z=.bl k ∧
   (if k=true then tc σ H3 fun w' H4=>r' y w' H4 fun z2 H5=>∃ k2,z2=.bl k2∧(if k2=true then td σ H5 fun v' H6=>r2 w' v' H6 fun z3 H7=>∃ k3,z3=.bl k3∧Q k3 H7 else Q false H5) else Q false H3)):=by
 intro pins s σ H Q I h
 refine isTrue_chain (thn (ha pins s σ H _ I h) fun v s1 ⟨x,H1,I1,r1,q1⟩=>test_link (thn (hb pins s1 σ H1 _ I1 q1) fun u s2 ⟨y,H2,I2,r2,q2⟩ =>
  thn (ho pins s2 σ H2 x y v u _ I2 r1 r2 q2) fun d s3 ⟨z,H3,I3,r3,k,e,q3⟩=>?_)) hm
 subst e
 cases r3
 refine wpAny_truthy_bool ?_
 cases k with
 | false=>exact ite_ff ⟨H3,I3,q3⟩
 | true =>
  refine ite_tt (test_link (thn (hc pins s3 σ H3 _ I3 q3) fun w' s4 ⟨z',H4,I4,r4,q4⟩=>thn (ho' pins s4 σ H4 y z' u w' _ I4 r2 r4 q4) fun d' s5 ⟨z2,H5,I5,r5,k2,e2,q5⟩=>?_))
  subst e2
  cases r5
  refine wpAny_truthy_bool ?_
  cases k2 with
  | false=>exact ite_ff ⟨H5,I5,q5⟩
  | true =>
   refine ite_tt (test_last (thn (hd pins s5 σ H5 _ I5 q5) fun w2 s6 ⟨z6,H6,I6,r6,q6⟩=>thn (ho2 pins s6 σ H6 z' z6 w' w2 _ I6 r4 r6 q6) fun d2 s7 ⟨z7,H7,I7,r7,k3,e3,q7⟩=>?_))
   subst e3
   cases r7
   exact wpAny_truthy_bool ⟨H7,I7,q7⟩
end
def TK (K:W.Frag) (H H':Hp):Prop:=∀ p xs,SqT K H p xs→SqT K H' p xs
theorem TK.refl (K:W.Frag) (H:Hp):TK K H H:=fun _ _ h=>h
theorem TK.trans {K:W.Frag}{H H1 H2:Hp} (a:TK K H H1) (b:TK K H1 H2):TK K H H2:=fun p xs h=>b p xs (a p xs h)
theorem dT {p:Prop} [Decidable p] (h:p):decide p=true:=decide_eq_true h
theorem bt_len:bootBuiltins "len"=some (.builtin "len"):=by decide +kernel
theorem bt_range:bootBuiltins "range"=some (.type "range"):=by decide +kernel
theorem bt_list:bootBuiltins "list"=some (.type "list"):=by decide +kernel
theorem bt_tuple:bootBuiltins "tuple"=some (.type "tuple"):=by decide +kernel
theorem bt_min:bootBuiltins "min"=some (.builtin "min"):=by decide +kernel
theorem bt_max:bootBuiltins "max"=some (.builtin "max"):=by decide +kernel
theorem bt_zip:bootBuiltins "zip"=some (.type "zip"):=by decide +kernel
theorem bt_isinstance:bootBuiltins "isinstance"=some (.builtin "isinstance"):=by decide +kernel
theorem bt_all:bootBuiltins "all"=some (.builtin "all"):=by decide +kernel
theorem bt_any:bootBuiltins "any"=some (.builtin "any"):=by decide +kernel
theorem bt_int:bootBuiltins "int"=some (.type "int"):=by decide +kernel
theorem bt_bool:bootBuiltins "bool"=some (.type "bool"):=by decide +kernel
theorem bt_str:bootBuiltins "str"=some (.type "str"):=by decide +kernel
structure C4 where
 a:Int
 b:Int
 k:Int
 o:Int
def C4.ok (sw pl:Int) (c:C4):Prop:=0≤c.a∧c.a<c.b∧c.b<pl∧0≤c.k∧c.k<sw∧0≤c.o∧c.o<2
structure NetOk (ms mp mc:Int) (sw pl:Int) (cs:List C4):Prop where
 s1:1≤sw
 s2:sw≤ms
 p1:2≤pl
 p2:pl≤mp
 c1:(cs.length:Int)≤mc
 c2:∀ c∈cs,c.ok sw pl
inductive Ty2 (K:W.Frag) (H:Hp):V→String→Prop where
 | non:Ty2 K H .non "NoneType"
 | bl (x:Bool):Ty2 K H (.bl x) "bool"
 | int (i:Int):Ty2 K H (.int i) "int"
 | str (x:Str):Ty2 K H (.str x) "str"
 | tup {a:Addr}{xs:List V} (e:SqT K H a xs):Ty2 K H (.ref a) "tuple"
 | lst {a:Addr}{xs:List V} (e:SqL K H a xs):Ty2 K H (.ref a) "list"
 | dk {a:Addr}{kvs:List (Key × V)} (e:H a=some (.dK kvs)):Ty2 K H (.ref a) "dict"
noncomputable def kOf (t T:String):Bool:=t == T||(t == "bool"&&T == "int")
section
variable {X:Cx}
theorem isinst2_ok {A:Around}{E:Value→Shared→Prop}{pins:List (Addr × Obj)}{σ:St}{H:Hp}{s:Shared}{Q:Value→Shared→Prop}{c:Value}{b:Bool}{x:V}{u:Value}{t:String} (I:Inv X pins σ H s) (rx:RelV x u) (ty:Ty2 X.K H x t) (e:W.kitOne X.K (.type t) c=some b) (h:∀ tk,Q (.bool b) { s with toks:=tk }) :
  wpAny (model X.prog X.w) A (call (.builtin "isinstance") [u,c]) Q E s:=by
 cases ty with
 | non=>cases (show u=Value.none from rx); exact W.kia_one W.kitx_none I.kIn True.intro e (fun z=>nomatch z) h
 | bl y=>cases (show u=Value.bool y from rx); exact W.kia_one W.kitx_bool I.kIn True.intro e (fun z=>nomatch z) h
 | int i=>obtain ⟨t,q⟩:=(show ∃ t,u=Value.int i t from rx); cases q; exact W.kia_one W.kitx_int I.kIn True.intro e (fun z=>nomatch z) h
 | str y=>obtain ⟨t,q⟩:=(show ∃ t,u=Value.str y t from rx); cases q; exact W.kia_one W.kitx_str I.kIn True.intro e (fun z=>nomatch z) h
 | @lst a xs ea =>
  cases (show u=Value.ref a from rx)
  obtain ⟨its,_,pl,_⟩:=I.list ea
  obtain ⟨o,h1,h2,_⟩:=pl.isList
  exact W.kia_one W.kitx_list I.kIn ⟨o,h1,h2⟩ e (fun z=>nomatch z) h
 | @tup a xs ea =>
  cases (show u=Value.ref a from rx)
  obtain ⟨its,_,pl,_⟩:=I.tuple ea
  obtain ⟨o,h1,h2,_⟩:=pl
  exact W.kia_one W.kitx_tuple I.kIn ⟨o,h1,h2⟩ e (fun z=>nomatch z) h
 | @dk a kvs ea =>
  cases (show u=Value.ref a from rx)
  obtain ⟨_,_,vs,_,p⟩:=(show ObjOk X.prog X.w H s.heap a (.dK kvs) from I.hok a _ ea)
  obtain ⟨o,es,ep,h1,h2,_⟩:=p
  exact W.kia_one W.kitx_dict I.kIn ⟨o,h1,h2.1⟩ e (fun z=>nomatch z) h
theorem call_isinst2:CallR X (.builtin "isinstance") (fun vs H Q=>∃ x t T b,vs=[x,.ty T]∧Ty2 X.K H x t∧W.kitOne X.K (.type t) (.type T)=some b∧Q (.bl b) H):=by
 intro pins s σ H xs us Q I r h
 obtain ⟨x,t,T,b,rfl,ty,e,q⟩:=h
 obtain ⟨u,v,rfl,ru,rv⟩:=vals2 r
 cases rv
 exact isinst2_ok I ru ty e fun tk=>⟨.bl b,H,I.tok tk,rfl,q⟩
end
theorem kit_all2 (K:W.Frag):(∀ t∈["NoneType","bool","int","str","tuple","list","dict"],∀ T∈["bool","int","tuple","list","str","dict"],W.kitOne K (.type t) (.type T)=some (kOf t T)):=by
 intro t ht T hT
 simp only [List.mem_cons,List.not_mem_nil,or_false] at ht hT
 rcases ht with rfl | rfl | rfl | rfl | rfl | rfl | rfl <;> rcases hT with rfl | rfl | rfl | rfl | rfl | rfl <;> rfl
mutual
inductive Rp (K:W.Frag) (H:Hp) (a0:Addr→Prop):V→PyData→Prop where
 | non:Rp K H a0 .non .none
 | bl (b:Bool):Rp K H a0 (.bl b) (.bool b)
 | int (i:Int):Rp K H a0 (.int i) (.int i)
 | str (x:Str):Rp K H a0 (.str x) (.str x)
 | tup {p:Addr}{xs:List V}{ds:List PyData} (h:SqT K H p xs) (r:RpL K H a0 xs ds):Rp K H a0 (.ref p) (.tuple ds)
 | lst {p:Addr}{xs:List V}{ds:List PyData} (n:a0 p) (h:SqL K H p xs) (r:RpL K H a0 xs ds):Rp K H a0 (.ref p) (.list ds)
inductive RpL (K:W.Frag) (H:Hp) (a0:Addr→Prop):List V→List PyData→Prop where
 | nil:RpL K H a0 [] []
 | cons {x:V}{xs:List V}{d:PyData}{ds:List PyData} (h:Rp K H a0 x d) (t:RpL K H a0 xs ds):RpL K H a0 (x::xs) (d::ds)
end
noncomputable def C4.d (c:C4):PyData:=.tuple [.int c.a,.int c.b,.int c.k,.int c.o]
open PySem PySem.Spec PyProof.Rows
section
variable {prog:Program}{w:World}{A:Around}{E:Value→Shared→Prop}{s:Shared}
theorem tupNext_item {j t:Addr}{n:Nat}{vs:Array Value}{v:Value}{Q:Value→Shared→Prop} (hj:s.heap.IsTupleIter j t n) (ht:s.heap.IsTuple t vs) (hv:vs[n]?=some v)
  (q:∀ h',h'.IsTupleIter j t (n+1)→Heap.SameBut j s.heap h'→Q v { s with heap:=h' }):wpAny (model prog w) A (Builtin.SmallTypes.nextOf (.ref j)) Q E s:=by
 obtain ⟨oj,e1,c1,d1⟩:=id hj
 obtain ⟨ot,e2,_,m,d2⟩:=ht
 unfold Builtin.SmallTypes.nextOf
 refine wpAny_bind (wpAny_callSpecial?_slot (name:=Str.ofString "__next__") hj.typeIs F.slot_tuple_iterator_next (wpAny_call_entry F.slot_tuple_iterator_next hj.typeIs F.entry_tuple_iterator_next ?_ (F.args_tuple_iterator_next_1 _)))
 show wpAny _ _ (field (.ref j) 0 >>= _) _ _ s
 refine wpAny_bind (wpAny_field e1 d1 (x:=.ref t) rfl ?_)
 show wpAny _ _ (if (Value.ref t == Value.none)=true then _ else _) _ _ s
 rw [if_neg (show ¬ ((Value.ref t == Value.none)=true) from fun z=>Bool.false_ne_true z)]
 show wpAny _ _ (field (.ref j) 1 >>= _) _ _ s
 refine wpAny_bind (wpAny_field e1 d1 (x:=.int n 0) rfl ?_)
 show wpAny _ _ (seqItems? (.ref t) >>= _) _ _ s
 refine wpAny_bind (wpAny_seqItems e2 d2 ?_)
 simp only [hv,Int.toNat_natCast]
 refine wpAny_bind (wpAny_setField e1 d1 (by simp) (wpAny_pure ⟨v,rfl,wpAny_pure (q _ ?_ (Heap.SameBut.update ..))⟩))
 refine ⟨_,Heap.get?_update_self _ e1 (Obj.isFreed_of_fields (Obj.data_mapFields d1 _)),(Obj.cls_mapFields ..).trans c1,?_⟩
 rw [Obj.data_mapFields d1]
 simp [rawInt]
theorem tupNext_end {j t:Addr}{n:Nat}{vs:Array Value}{Q:Value→Shared→Prop} (hh:A.handled=none) (hj:s.heap.IsTupleIter j t n) (ht:s.heap.IsTuple t vs) (hv:vs[n]?=none)
  (q:∀ h' e,Heap.ExtBut j s.heap h'→(∃ o,h'.get? e=some o∧o.cls=.type "StopIteration")→E (.ref e) { s with heap:=h' }):wpAny (model prog w) A (Builtin.SmallTypes.nextOf (.ref j)) Q E s:=by
 obtain ⟨oj,e1,c1,d1⟩:=id hj
 obtain ⟨ot,e2,_,m,d2⟩:=ht
 unfold Builtin.SmallTypes.nextOf
 refine wpAny_bind (wpAny_callSpecial?_slot (name:=Str.ofString "__next__") hj.typeIs F.slot_tuple_iterator_next (wpAny_call_entry F.slot_tuple_iterator_next hj.typeIs F.entry_tuple_iterator_next ?_ (F.args_tuple_iterator_next_1 _)))
 show wpAny _ _ (field (.ref j) 0 >>= _) _ _ s
 refine wpAny_bind (wpAny_field e1 d1 (x:=.ref t) rfl ?_)
 show wpAny _ _ (if (Value.ref t == Value.none)=true then _ else _) _ _ s
 rw [if_neg (show ¬ ((Value.ref t == Value.none)=true) from fun z=>Bool.false_ne_true z)]
 show wpAny _ _ (field (.ref j) 1 >>= _) _ _ s
 refine wpAny_bind (wpAny_field e1 d1 (x:=.int n 0) rfl ?_)
 show wpAny _ _ (seqItems? (.ref t) >>= _) _ _ s
 refine wpAny_bind (wpAny_seqItems e2 d2 ?_)
 simp only [hv,Int.toNat_natCast]
 refine wpAny_bind (wpAny_rule (wpAny_bind (wpAny_setField e1 d1 (by simp) ?_)))
 refine wpAny_bind (m:=newExc (.type "StopIteration") []) ?_
 simp only [newTuple,newExc]
 refine wpAny_bind (wpAny_newObj_type ?_ (by size_fits))
 refine wpAny_bind (m:=firstArgMember _ _) (wpAny_of_eq (a:=Value.none) (by first | (simp only [firstArgMember]; rfl) | rfl) ?_)
 refine wpAny_newObj_type ?_ (by size_fits)
 simp only [raiseNew]
 refine wpAny_bind (wpAny_handled ?_)
 first | rw [hh] | rw [show A.in1.handled=none from hh]
 refine wpAny_bind (wpAny_pure (wpAny_throw ?_))
 exact q _ _ (((Heap.SameBut.update ..).extBut.push _).push _) ⟨_,Heap.get?_push_size _ rfl,rfl⟩
end
theorem drawsTuple {prog:Program}{w:World}{A:Around} (hh:A.handled=none) (j t:Addr) (hne:t≠j) (vs:Array Value) :
  Draws prog w A j [j,t] vs.size (fun i v=>vs[i]?=some v) (fun i h=>h.IsTupleIter j t i∧h.IsTuple t vs) where
 live:=fun _ _ st=>let ⟨o,ho,_⟩:=st.1; ⟨o,ho⟩
 frame:=fun _ _ _ st kk=>⟨st.1.at fun o e=>kk j (by simp) o e,let ⟨o,ho,r⟩:=st.2; ⟨o,kk t (by simp) o ho,r⟩⟩
 item:=fun i s Q E hi st hQ=>tupNext_item st.1 st.2 (v:=vs[i]) (by simp [hi]) fun h' h1 h2=>hQ _ h' s.toks (by simp [hi]) ⟨h1,st.2.extBut h2.extBut hne⟩ h2
 done:=fun s Q E st hE=>tupNext_end hh st.1 st.2 (by simp) hE
open PySem PySem.Spec PyProof.Rows
section
variable {X:Cx}{pins:List (Addr × Obj)}{σ:St}{H:Hp}{s:Shared}
mutual
theorem Inv.reads (I:Inv X pins σ H s) {a0:Addr→Prop}:∀ {x:V}{d:PyData}{u:Value},Rp X.K H a0 x d→RelV x u→∃ as,Reads s.heap u d as
 | _,_,u,.non,r=>by cases (show u=Value.none from r); exact ⟨_,.none⟩
 | _,_,u,.bl b,r=>by cases (show u=Value.bool b from r); exact ⟨_,.bool b⟩
 | _,_,u,.int i,r=>by obtain ⟨t,q⟩:=(show ∃ t,u=Value.int i t from r); cases q; exact ⟨_,.int i t⟩
 | _,_,u,.str y,r=>by obtain ⟨t,q⟩:=(show ∃ t,u=Value.str y t from r); cases q; exact ⟨_,.str y t⟩
 | _,_,u,.tup (p:=p) h rr,r=>by
  cases (show u=Value.ref p from r)
  obtain ⟨its,rv,⟨o,h1,h2,n,h3⟩,_⟩:=I.tuple h
  obtain ⟨as,ra⟩:=I.readsL rr rv
  exact ⟨_,.tuple h1 h2 h3 (by simpa using ra)⟩
 | _,_,u,.lst (p:=p) _ h rr,r=>by
  cases (show u=Value.ref p from r)
  obtain ⟨its,rv,pl,_⟩:=I.list h
  obtain ⟨o,h1,h2,n,h3⟩:=pl.isList
  obtain ⟨as,ra⟩:=I.readsL rr rv
  exact ⟨_,.list h1 h2 h3 (by simpa using ra)⟩
theorem Inv.readsL (I:Inv X pins σ H s) {a0:Addr→Prop}:∀ {xs:List V}{ds:List PyData}{us:List Value},RpL X.K H a0 xs ds→Vals xs us→∃ as,ReadsAll s.heap us ds as
 | _,_,_,.nil,.nil=>⟨_,.nil⟩
 | _,_,_,.cons h t,.cons r rr=>by
  obtain ⟨a1,q1⟩:=I.reads h r
  obtain ⟨a2,q2⟩:=I.readsL t rr
  exact ⟨_,.cons q1 q2⟩
end
def okD (d:PyData):Prop:=d.canLay0=true∧d.depth≤60
theorem op_eqD (hu:X.A.units+64<cLine):OpR X (compareOp .Eq) (fun x y H Q=>∃ (N N':Addr→Prop) (da db:PyData),Rp X.K H N x da∧Rp X.K H N' y db∧okD da∧okD db∧Q (.bl (PyData.eqv da db)) H):=by
 intro pins s σ H x y v u Q I rx ry h
 obtain ⟨N,N',da,db,hx,hy,o1,o2,q⟩:=h
 obtain ⟨as,ra⟩:=I.reads hx rx
 obtain ⟨bs,rb⟩:=I.reads hy ry
 exact SeqAt.compareEq_reads ra rb o1.1 o2.1 (by have:=o1.2; omega) ⟨.bl _,H,I,rfl,q⟩
theorem op_neD (hu:X.A.units+64<cLine):OpR X (compareOp .NotEq) (fun x y H Q=>∃ (N N':Addr→Prop) (da db:PyData),Rp X.K H N x da∧Rp X.K H N' y db∧okD da∧okD db∧Q (.bl (!PyData.eqv da db)) H):=by
 intro pins s σ H x y v u Q I rx ry h
 obtain ⟨N,N',da,db,hx,hy,o1,o2,q⟩:=h
 obtain ⟨as,ra⟩:=I.reads hx rx
 obtain ⟨bs,rb⟩:=I.reads hy ry
 exact SeqAt.compareNe_reads ra rb o1.1 o2.1 (by have:=o1.2; omega) ⟨.bl _,H,I,rfl,q⟩
end
open PySem PySem.Spec PyProof.Rows
def SqX (b:Bool) (K:W.Frag) (H:Hp) (a:Addr) (xs:List V):Prop:=match b with
 | true=>SqT K H a xs
 | false=>SqL K H a xs
def IsX (b:Bool) (h:Heap) (a:Addr) (vs:Array Value):Prop:=match b with
 | true=>h.IsTuple a vs
 | false=>h.IsList a vs
def ItX (b:Bool) (h:Heap) (j a:Addr) (i:Nat):Prop:=match b with
 | true=>h.IsTupleIter j a i
 | false=>h.IsListIter j a i
theorem ItX.obj {b:Bool}{h:Heap}{j a:Addr}{i:Nat} (x:ItX b h j a i):∃ o,h.get? j=some o∧∀ v,o.data≠.cell v:=by
 cases b with
 | true=>obtain ⟨o,h1,_,h2⟩:=(x:h.IsTupleIter j a i); exact ⟨o,h1,fun v q=>by rw [h2] at q; cases q⟩
 | false=>obtain ⟨o,h1,_,h2⟩:=(x:h.IsListIter j a i); exact ⟨o,h1,fun v q=>by rw [h2] at q; cases q⟩
theorem ItX.keep {b:Bool}{h h':Heap}{j a:Addr}{i:Nat} (x:ItX b h j a i) (e:∀ o,h.get? j=some o→h'.get? j=some o):ItX b h' j a i:=by
 cases b with
 | true=>exact Heap.IsTupleIter.at x e
 | false=>exact Heap.IsListIter.at x e
theorem IsX.lt {b:Bool}{h:Heap}{a:Addr}{vs:Array Value} (x:IsX b h a vs):a<h.objs.size:=by
 cases b with
 | true=>obtain ⟨_,e,_⟩:=(x:h.IsTuple a vs); exact Heap.lt_size e
 | false=>obtain ⟨_,e,_⟩:=(x:h.IsList a vs); exact Heap.lt_size e
theorem drawsX {prog:Program}{w:World}{A:Around} (b:Bool) (hh:A.handled=none) (j t:Addr) (hne:t≠j) (vs:Array Value) :
  Draws prog w A j [j,t] vs.size (fun i v=>vs[i]?=some v) (fun i h=>ItX b h j t i∧IsX b h t vs):=by
 cases b with
 | true=>exact drawsTuple hh j t hne vs
 | false=>exact Draws.list hh j t hne vs
section
variable {X:Cx}{pins:List (Addr × Obj)}{σ:St}{H:Hp}{s:Shared}
theorem Inv.sqX (I:Inv X pins σ H s) {b:Bool}{a:Addr}{xs:List V} (h:SqX b X.K H a xs):∃ its,Vals xs its∧IsX b s.heap a its.toArray:=by
 cases b with
 | true=>obtain ⟨its,r,p,_⟩:=I.tuple h; exact ⟨its,r,p⟩
 | false=>obtain ⟨its,r,p,_⟩:=I.list h; exact ⟨its,r,p.isList⟩
theorem Inv.sqX_inj (I:Inv X pins σ H s) {b:Bool}{a:Addr}{xs ys:List V} (h:SqX b X.K H a xs) (h':SqX b X.K H a ys):xs=ys:=by
 cases b with
 | true=>exact I.tuple_inj h h'
 | false=>exact I.list_inj h h'
end
theorem allN {P:Addr→Prop}:∀ x∈([]:List Addr),P x:=fun _ h=>by cases h
theorem allC {P:Addr→Prop}{a:Addr}{l:List Addr} (h:P a) (t:∀ x∈l,P x):∀ x∈a::l,P x:=fun x hx=>(List.mem_cons.mp hx).elim (fun e=>e▸h) (t x)
theorem fp_upd {X:Cx}{pins:List (Addr × Obj)}{H:Hp}{T:Addr}{o:HO}{ws:List Addr} (h:∀ b∈ws,FpOk X pins H b) (n:∀ b∈ws,b≠T):∀ b∈ws,FpOk X pins (upd H T o) b:=fun b hb=>⟨by rw [upd_ne (n b hb)]; exact (h b hb).1,(h b hb).2⟩
structure EsX (b:Bool) (e it a:Addr) (i:Nat) (h:Heap):Prop where
 a1:∃ old,IsEnum h e it (i:Nat) old
 a2:ItX b h it a i
theorem EsX.obj {b:Bool}{e it a:Addr}{i:Nat}{h:Heap} (st:EsX b e it a i h):∀ c∈[e,it],∃ o,h.get? c=some o∧∀ v,o.data≠.cell v:=by
 obtain ⟨_,a1⟩:=st.a1
 exact allC ⟨_,a1,fun v q=>by cases q⟩ (allC st.a2.obj allN)
theorem EsX.ne {b:Bool}{e it a:Addr}{i:Nat}{h:Heap} (st:EsX b e it a i h) {T:Addr} (hT:h.objs.size≤T):∀ c∈[e,it],c≠T:=fun c hc=>by
 obtain ⟨o,z,_⟩:=st.obj c hc
 exact Nat.ne_of_lt (Nat.lt_of_lt_of_le (Heap.lt_size z) hT)
open PySem PySem.Spec PyProof.Rows
structure ZAp (z TI TO i1 i2:Addr) (f1 f2:List Addr):Prop where
 TIz:TI≠z
 TOz:TO≠z
 i1z:i1≠z
 i2z:i2≠z
 TITO:TI≠TO
 TIi1:TI≠i1
 TIi2:TI≠i2
 TOi1:TO≠i1
 TOi2:TO≠i2
 i12:i1≠i2
 z1:z∉f1
 z2:z∉f2
 O1:TO∉f1
 O2:TO∉f2
 j1:i2∉f1
 j2:i1∉f2
section
variable {prog:Program}{w:World}{A:Around}{E:Value→Shared→Prop}{s:Shared}
variable {z TI TO i1 i2:Addr}{f1 f2:List Addr}{n1 n2 k:Nat}{P1 P2:Nat→Value→Prop}{S1 S2:Nat→Heap→Prop}
theorem Draws.sb {j c:Addr}{fp:List Addr}{n i:Nat}{P:Nat→Value→Prop}{St:Nat→Heap→Prop}{h h':Heap} (D:Draws prog w A j fp n P St) (st:St i h) (sb:Heap.SameBut c h h') (hc:c∉fp):St i h' :=
 D.frame _ _ _ st fun b hb o e=>sb.extBut b o (fun q=>hc (q▸hb)) e
theorem zip_open {Q:Fin→Shared→Prop}{a b:Value} (hz:IsZip s.heap z TI TO .none) (hTI:IsPair s.heap TI (.ref i1) (.ref i2)) (hTO:IsPair s.heap TO a b) (hh:A.handled=none)
  (D1:∀ A:Around,A.handled=none→Draws prog w A i1 f1 n1 P1 S1) (D2:∀ A:Around,A.handled=none→Draws prog w A i2 f2 n2 P2 S2) (ap:ZAp z TI TO i1 i2 f1 f2) (h1:S1 k s.heap) (h2:S2 k s.heap)
  (hQ:k<n1→k<n2→∀ x y h' tk,P1 k x→P2 k y→IsZip h' z TI TO (rawInt s.heap.objs.size)→IsPair h' TO x y→S1 (k+1) h'→S2 (k+1) h'→IsPair h' s.heap.objs.size x y→h'.objs.size=s.heap.objs.size+1 →
   (∀ c o,c≠z→c≠TO→c≠i1→c≠i2→s.heap.get? c=some o→h'.get? c=some o)→Q (.done (.ret (.ref s.heap.objs.size))) { s with heap:=h',toks:=tk })
  (hE:(k=n1∨k=n2)→∀ h' e tk,(∀ c o,c≠z→c≠TO→c≠i1→c≠i2→s.heap.get? c=some o→h'.get? c=some o)→(∃ o,h'.get? e=some o∧o.cls=.type "StopIteration")→E (.ref e) { s with heap:=h',toks:=tk })
  (hk1:k≤n1) (hk2:k≤n2):wpAny (model prog w) A (Builtin.«zip.__next__» ⟨[.ref z],[]⟩) Q E s:=by
 show wpAny _ _ (field (.ref z) 2 >>= _) _ _ _
 refine wpAny_bind (wpAny_field hz rfl (x:=.bool false) rfl ?_)
 show wpAny _ _ (field (.ref z) 3 >>= _) _ _ _
 refine wpAny_bind (wpAny_field hz rfl (x:=.ref TI) rfl ?_)
 refine wpAny_bind (wpAny_seqItems hTI rfl ?_)
 show wpAny _ _ (Builtin.SmallTypes.ownedTupleIsFree (.ref z) >>= _) _ _ _
 refine wpAny_bind ?_
 unfold Builtin.SmallTypes.ownedTupleIsFree
 refine wpAny_bind (wpAny_field hz rfl (x:=.none) rfl (wpAny_pure ?_))
 simp only [if_true]
 refine wpAny_bind (wpAny_rule ?_)
 refine wpAny_bind (wpAny_field hz rfl (x:=.ref TO) rfl ?_)
 refine wpAny_bind (wpAny_setField_rec hz (by simp) fun ha za sa=>?_)
 replace za:IsZip ha z TI TO .ellipsis:=za
 have s1a:S1 k ha:=Draws.sb (D1 A hh) h1 sa ap.z1
 have s2a:S2 k ha:=Draws.sb (D2 A hh) h2 sa ap.z2
 have oa:IsPair ha TO a b:=sa.extBut _ _ ap.TOz hTO
 refine wpAny_bind ?_
 simp only [List.zipIdx_cons,List.zipIdx_nil,List.forIn_cons,List.forIn_nil]
 refine wpAny_bind (wpAny_bind (wpAny_onRaise ?_))
 show wpAny _ _ (Builtin.SmallTypes.nextOf (.ref i1) >>= _) _ _ _
 by_cases l1:k<n1
 ·refine wpAny_bind ((D1 _ hh).item k _ _ _ l1 s1a fun x hb tb px s1b sb=>wpAny_pure ?_)
  have ob:IsPair hb TO a b:=sb.extBut _ _ ap.TOi1 oa
  have s2b:S2 k hb:=Draws.sb (D2 A hh) s2a sb ap.j2
  have zb:IsZip hb z TI TO .ellipsis:=sb.extBut _ _ ap.i1z.symm za
  refine wpAny_bind (wpAny_seqItems ob rfl ?_)
  refine wpAny_bind (wpAny_updateSeq_pair ob fun hc oc sc=>?_)
  replace oc:IsPair hc TO x b:=oc
  have s1c:S1 (k+1) hc:=Draws.sb (D1 A hh) s1b sc ap.O1
  have s2c:S2 k hc:=Draws.sb (D2 A hh) s2b sc ap.O2
  have zc:IsZip hc z TI TO .ellipsis:=sc.extBut _ _ ap.TOz.symm zb
  refine wpAny_bind (wpAny_letGo (wpAny_pure ?_))
  refine wpAny_bind (wpAny_bind (wpAny_onRaise ?_))
  show wpAny _ _ (Builtin.SmallTypes.nextOf (.ref i2) >>= _) _ _ _
  by_cases l2:k<n2
  ·refine wpAny_bind ((D2 _ hh).item k _ _ _ l2 s2c fun y hd td py s2d sd=>wpAny_pure ?_)
   have od:IsPair hd TO x b:=sd.extBut _ _ ap.TOi2 oc
   have s1d:S1 (k+1) hd:=Draws.sb (D1 A hh) s1c sd ap.j1
   have zd:IsZip hd z TI TO .ellipsis:=sd.extBut _ _ ap.i2z.symm zc
   refine wpAny_bind (wpAny_seqItems od rfl ?_)
   refine wpAny_bind (wpAny_updateSeq_pair od fun he oe se=>?_)
   replace oe:IsPair he TO x y:=oe
   have s1e:S1 (k+1) he:=Draws.sb (D1 A hh) s1d se ap.O1
   have s2e:S2 (k+1) he:=Draws.sb (D2 A hh) s2d se ap.O2
   have ze:IsZip he z TI TO .ellipsis:=se.extBut _ _ ap.TOz.symm zd
   refine wpAny_bind (wpAny_letGo (wpAny_pure (wpAny_pure ?_)))
   refine wpAny_bind (wpAny_seqItems oe rfl ?_)
   refine wpAny_bind (wpAny_newTuple ?_)
   have hsz:he.objs.size=s.heap.objs.size:=by rw [se.1,sd.1,sc.1,sb.1,sa.1]
   have kp:∀ c o,c≠z→c≠TO→c≠i1→c≠i2→s.heap.get? c=some o→he.get? c=some o:=fun c o c1 c2 c3 c4 e =>
    se.extBut _ _ c2 (sd.extBut _ _ c4 (sc.extBut _ _ c2 (sb.extBut _ _ c3 (sa.extBut _ _ c1 e))))
   have zlt:z<he.objs.size:=Heap.lt_size ze
   show wpAny _ _ (Builtin.SmallTypes.ownedTupleHandOut (.ref z) (.ref he.objs.size) >>= _) _ _ _
   refine wpAny_bind ?_
   unfold Builtin.SmallTypes.ownedTupleHandOut
   have zf:IsZip (he.push { cls:=.type "tuple",data:=.seq #[x,y] }) z TI TO .ellipsis:=Heap.get?_push_of_some _ ze
   refine wpAny_bind (wpAny_setField_rec zf (by simp) fun hg zg sg=>?_)
   replace zg:IsZip hg z TI TO (rawInt he.objs.size):=zg
   refine wpAny_setField_rec zg (by simp) fun hi zi si=>?_
   replace zi:IsZip hi z TI TO (rawInt he.objs.size):=zi
   have up:∀ c o,c≠z→he.get? c=some o→hi.get? c=some o:=fun c o c1 e=>si.extBut _ _ c1 (sg.extBut _ _ c1 (Heap.get?_push_of_some _ e))
   have tz:IsPair hi he.objs.size x y:=si.extBut _ _ (Nat.ne_of_gt zlt) (sg.extBut _ _ (Nat.ne_of_gt zlt) (Heap.get?_push_size _ rfl))
   have zz:hi.objs.size=he.objs.size+1:=by rw [si.1,sg.1,Heap.size_push]
   have s1i:S1 (k+1) hi:=(D1 A hh).frame _ _ _ s1e fun b hb o e=>up b o (fun q=>ap.z1 (q▸hb)) e
   have s2i:S2 (k+1) hi:=(D2 A hh).frame _ _ _ s2e fun b hb o e=>up b o (fun q=>ap.z2 (q▸hb)) e
   rw [hsz] at zi tz zz
   refine wpAny_pure ?_
   show Q (.done (.ret (.ref he.objs.size))) _
   rw [hsz]
   exact hQ l1 l2 x y hi td px py zi (up _ _ ap.TOz oe) s1i s2i tz zz fun c o c1 c2 c3 c4 e=>up c o c1 (kp c o c1 c2 c3 c4 e)
  ·have e2:k=n2:=Nat.le_antisymm hk2 (Nat.le_of_not_lt l2)
   refine wpAny_bind ((D2 _ hh).done _ _ _ (e2▸s2c) fun hd e sd he=>?_)
   obtain ⟨oe,hoe,hce⟩:=he
   have zd:IsZip hd z TI TO .ellipsis:=sd _ _ ap.i2z.symm zc
   have hez:e≠z:=fun q=>by subst q; rw [zd] at hoe; cases hoe; simp at hce
   refine wpAny_setField_rec zd (by simp) fun hf _ sf=>hE (.inr e2) hf e tb (fun c o c1 c2 c3 c4 q=>sf.extBut _ _ c1 (sd _ _ c4 (sc.extBut _ _ c2 (sb.extBut _ _ c3 (sa.extBut _ _ c1 q))))) ⟨oe,sf.extBut _ _ hez hoe,hce⟩
 ·have e1:k=n1:=Nat.le_antisymm hk1 (Nat.le_of_not_lt l1)
  refine wpAny_bind ((D1 _ hh).done _ _ _ (e1▸s1a) fun hd e sd he=>?_)
  obtain ⟨oe,hoe,hce⟩:=he
  have zd:IsZip hd z TI TO .ellipsis:=sd _ _ ap.i1z.symm za
  have hez:e≠z:=fun q=>by subst q; rw [zd] at hoe; cases hoe; simp at hce
  exact wpAny_setField_rec zd (by simp) fun hf _ sf=>hE (.inl e1) hf e s.toks (fun c o c1 _ c3 _ q=>sf.extBut _ _ c1 (sd _ _ c3 (sa.extBut _ _ c1 q))) ⟨oe,sf.extBut _ _ hez hoe,hce⟩
theorem WalksT.zipD (hh:A.handled=none) (D1:∀ A:Around,A.handled=none→Draws prog w A i1 f1 n1 P1 S1) (D2:∀ A:Around,A.handled=none→Draws prog w A i2 f2 n2 P2 S2) (ap:ZAp z TI TO i1 i2 f1 f2) (m1:i1∈f1) (m2:i2∈f2) :
  WalksT prog w A z (z::TI::TO::f1++f2) [z,TO,i1,i2] (min n1 n2) (fun i vals=>∃ x y,P1 i x∧P2 i y∧vals=#[x,y])
   (fun i h=>IsZip h z TI TO .none∧IsPair h TI (.ref i1) (.ref i2)∧(∃ a b,IsPair h TO a b)∧S1 i h∧S2 i h)
   (fun i T h=>IsZip h z TI TO (rawInt T)∧IsPair h TI (.ref i1) (.ref i2)∧(∃ a b,IsPair h TO a b)∧S1 (i+1) h∧S2 (i+1) h∧T≠z∧T≠TO∧T≠i1∧T≠i2) where
 sub:=fun c hc=>by simp at hc ⊢; rcases hc with rfl | rfl | rfl | rfl <;> simp [m1,m2]
 frame:=fun i h h' hst hk=>by
  obtain ⟨hz,hTI,⟨a,b,hTO⟩,h1,h2⟩:=hst
  exact ⟨hk z (by simp) _ hz,hk TI (by simp) _ hTI,⟨a,b,hk TO (by simp) _ hTO⟩,(D1 A hh).frame _ _ _ h1 fun b hb o e=>hk b (by simp [hb]) o e,(D2 A hh).frame _ _ _ h2 fun b hb o e=>hk b (by simp [hb]) o e⟩
 item:=fun i s Q E hi hst hQ=>by
  obtain ⟨hz,hTI,⟨a,b,hTO⟩,h1,h2⟩:=hst
  have hT:s.TypeIs (.ref z) "zip":=⟨_,hz,rfl⟩
  have lt:∀ {c o},s.heap.get? c=some o→s.heap.objs.size≠c:=fun e=>Nat.ne_of_gt (Heap.lt_size e)
  unfold pyNext
  refine wpAny_bind (wpAny_attempt (wpAny_callSpecial?_slot (name:=Str.ofString "__next__") hT F.slot_zip_next
   (wpAny_call_entry F.slot_zip_next hT F.entry_zip_next (zip_open hz hTI hTO hh D1 D2 ap h1 h2 (fun _ _ x y h' tk px py a1 a2 a3 a4 a5 a6 hk=>⟨_,rfl,wpAny_pure ?_⟩) (fun q=>by omega) (by omega) (by omega)) (F.args_zip_next_1 _))))
  refine hQ s.heap.objs.size #[x,y] h' tk ⟨x,y,px,py,rfl⟩ (Nat.le_refl _) ⟨_,a5,rfl,_,rfl⟩ ⟨a1,hk _ _ ap.TIz ap.TITO ap.TIi1 ap.TIi2 hTI,⟨_,_,a2⟩,a3,a4,lt hz,lt hTO,?_,?_⟩
   fun c o hc e=>hk c o (fun x=>hc (by simp [x])) (fun x=>hc (by simp [x])) (fun x=>hc (by simp [x])) (fun x=>hc (by simp [x])) e
  ·obtain ⟨_,e⟩:=(D1 A hh).live _ _ h1; exact lt e
  ·obtain ⟨_,e⟩:=(D2 A hh).live _ _ h2; exact lt e
 go:=fun elts k pos i T s Q E hm hQ=>by
  obtain ⟨hz,hTI,⟨a,b,hTO⟩,h1,h2,_⟩:=hm
  refine wpAny_letOwnedTupleGo_zip hz fun h' hz' hs'=>hQ h' ⟨hz',hs'.extBut _ _ ap.TIz hTI,⟨a,b,hs'.extBut _ _ ap.TOz hTO⟩,Draws.sb (D1 A hh) h1 hs' ap.z1,Draws.sb (D2 A hh) h2 hs' ap.z2⟩ fun c o hc e=>hs'.extBut _ _ (fun x=>hc (by simp [x])) e
 apart:=fun i T h hm hT=>by
  obtain ⟨_,_,_,_,_,t1,t2,t3,t4⟩:=hm
  simp at hT
  rcases hT with rfl | rfl | rfl | rfl
  ·exact t1 rfl
  ·exact t2 rfl
  ·exact t3 rfl
  ·exact t4 rfl
 done:=fun s Q E hst hQ=>by
  obtain ⟨hz,hTI,⟨a,b,hTO⟩,h1,h2⟩:=hst
  have hT:s.TypeIs (.ref z) "zip":=⟨_,hz,rfl⟩
  unfold pyNext
  refine wpAny_bind (wpAny_attempt (wpAny_callSpecial?_slot (name:=Str.ofString "__next__") hT F.slot_zip_next
   (wpAny_call_entry F.slot_zip_next hT F.entry_zip_next (zip_open hz hTI hTO hh D1 D2 ap h1 h2 (fun q1 q2=>by omega) (fun _ h' e tk hk he=>?_) (by omega) (by omega)) (F.args_zip_next_1 _))))
  obtain ⟨o,ho,hc⟩:=he
  refine wpAny_bind (wpAny_isInstance (T := "StopIteration") (b:=true) ⟨o,ho,hc⟩ isSubtype_stop ?_)
  exact wpAny_pure (hQ _ _ fun c o hc e=>hk c o (fun x=>hc (by simp [x])) (fun x=>hc (by simp [x])) (fun x=>hc (by simp [x])) (fun x=>hc (by simp [x])) e)
 self:=fun i s Q E hst hQ=>wpAny_pyIter_zip hst.1 hQ
end
open PySem PySem.Spec PyProof.Rows
noncomputable def itO (b:Bool) (l:Addr):Obj:={ cls:=.type (if b then "tuple_iterator" else "list_iterator"),data:=.fields #[.ref l,.int 0 0] }
noncomputable abbrev zq2 (h:Heap) (b1 b2:Bool) (l1 l2:Addr):Heap:=(h.push (itO b1 l1)).push (itO b2 l2)
noncomputable abbrev zq3 (h:Heap) (b1 b2:Bool) (l1 l2:Addr):Heap:=(zq2 h b1 b2 l1 l2).push { cls:=.type "tuple",data:=.seq #[.ref h.objs.size,.ref (h.push (itO b1 l1)).objs.size] }
noncomputable abbrev zq4 (h:Heap) (b1 b2:Bool) (l1 l2:Addr):Heap:=(zq3 h b1 b2 l1 l2).push { cls:=.type "tuple",data:=.seq #[.none,.none] }
noncomputable abbrev zq5 (h:Heap) (b1 b2:Bool) (l1 l2:Addr):Heap:=(zq4 h b1 b2 l1 l2).push { cls:=.type "zip",data:=.fields #[.none,.bool false,.bool false,.ref (zq2 h b1 b2 l1 l2).objs.size,.ref (zq3 h b1 b2 l1 l2).objs.size] }
theorem zip_newTT (l1 l2:Addr) (xs ys:Array Value) :
  Meets (Builtin.«zip.__new__» ⟨[.type "zip",.ref l1,.ref l2],[]⟩) (fun _ R s=>s.heap.IsTuple l1 xs∧s.heap.IsTuple l2 ys ∧
   R (.ok (.ret (.ref (zq4 s.heap true true l1 l2).objs.size))) { s with heap:=zq5 s.heap true true l1 l2 }) :=
 .of_wp fun prog w A R s h=>by
  obtain ⟨hp,g,d,tk,os⟩:=s; obtain ⟨hl1,hl2,h⟩:=h
  have hsub:=sub_zip
  have hL1:Heap.IsTuple (Shared.heap ⟨hp,g,d,tk,os⟩) l1 xs:=hl1
  have hL2:Heap.IsTuple (Shared.heap ⟨hp.push { cls:=.type "tuple_iterator",data:=.fields #[.ref l1,.int 0 0] },g,d,tk,os⟩) l2 ys:=Heap.IsTuple.push hl2 _
  wp_walk using wpAny_pyIter_tuple hL1,wpAny_pyIter_tuple hL2
  exact ⟨_,rfl,h⟩
theorem zip_newTL (l1 l2:Addr) (xs ys:Array Value) :
  Meets (Builtin.«zip.__new__» ⟨[.type "zip",.ref l1,.ref l2],[]⟩) (fun _ R s=>s.heap.IsTuple l1 xs∧s.heap.IsList l2 ys ∧
   R (.ok (.ret (.ref (zq4 s.heap true false l1 l2).objs.size))) { s with heap:=zq5 s.heap true false l1 l2 }) :=
 .of_wp fun prog w A R s h=>by
  obtain ⟨hp,g,d,tk,os⟩:=s; obtain ⟨hl1,hl2,h⟩:=h
  have hsub:=sub_zip
  have hL1:Heap.IsTuple (Shared.heap ⟨hp,g,d,tk,os⟩) l1 xs:=hl1
  have hL2:Heap.IsList (Shared.heap ⟨hp.push { cls:=.type "tuple_iterator",data:=.fields #[.ref l1,.int 0 0] },g,d,tk,os⟩) l2 ys:=Heap.IsList.push hl2 _
  wp_walk using wpAny_pyIter_tuple hL1,wpAny_pyIter_list hL2
  exact ⟨_,rfl,h⟩
theorem zip_newLT (l1 l2:Addr) (xs ys:Array Value) :
  Meets (Builtin.«zip.__new__» ⟨[.type "zip",.ref l1,.ref l2],[]⟩) (fun _ R s=>s.heap.IsList l1 xs∧s.heap.IsTuple l2 ys ∧
   R (.ok (.ret (.ref (zq4 s.heap false true l1 l2).objs.size))) { s with heap:=zq5 s.heap false true l1 l2 }) :=
 .of_wp fun prog w A R s h=>by
  obtain ⟨hp,g,d,tk,os⟩:=s; obtain ⟨hl1,hl2,h⟩:=h
  have hsub:=sub_zip
  have hL1:Heap.IsList (Shared.heap ⟨hp,g,d,tk,os⟩) l1 xs:=hl1
  have hL2:Heap.IsTuple (Shared.heap ⟨hp.push { cls:=.type "list_iterator",data:=.fields #[.ref l1,.int 0 0] },g,d,tk,os⟩) l2 ys:=Heap.IsTuple.push hl2 _
  wp_walk using wpAny_pyIter_list hL1,wpAny_pyIter_tuple hL2
  exact ⟨_,rfl,h⟩
theorem zip_newLL (l1 l2:Addr) (xs ys:Array Value) :
  Meets (Builtin.«zip.__new__» ⟨[.type "zip",.ref l1,.ref l2],[]⟩) (fun _ R s=>s.heap.IsList l1 xs∧s.heap.IsList l2 ys ∧
   R (.ok (.ret (.ref (zq4 s.heap false false l1 l2).objs.size))) { s with heap:=zq5 s.heap false false l1 l2 }) :=
 .of_wp fun prog w A R s h=>by
  obtain ⟨hp,g,d,tk,os⟩:=s; obtain ⟨hl1,hl2,h⟩:=h
  have hsub:=sub_zip
  have hL1:Heap.IsList (Shared.heap ⟨hp,g,d,tk,os⟩) l1 xs:=hl1
  have hL2:Heap.IsList (Shared.heap ⟨hp.push { cls:=.type "list_iterator",data:=.fields #[.ref l1,.int 0 0] },g,d,tk,os⟩) l2 ys:=Heap.IsList.push hl2 _
  wp_walk using wpAny_pyIter_list hL1,wpAny_pyIter_list hL2
  exact ⟨_,rfl,h⟩
theorem zip_newX (b1 b2:Bool) (l1 l2:Addr) (xs ys:Array Value) :
  Meets (Builtin.«zip.__new__» ⟨[.type "zip",.ref l1,.ref l2],[]⟩) (fun _ R s=>IsX b1 s.heap l1 xs∧IsX b2 s.heap l2 ys ∧
   R (.ok (.ret (.ref (zq4 s.heap b1 b2 l1 l2).objs.size))) { s with heap:=zq5 s.heap b1 b2 l1 l2 }):=by
 cases b1 with
 | true=>cases b2 with
  | true=>exact zip_newTT l1 l2 xs ys
  | false=>exact zip_newTL l1 l2 xs ys
 | false=>cases b2 with
  | true=>exact zip_newLT l1 l2 xs ys
  | false=>exact zip_newLL l1 l2 xs ys
theorem itX_new {b:Bool}{h:Heap}{j l:Addr} (e:h.get? j=some (itO b l)):ItX b h j l 0:=by
 cases b with
 | true=>exact ⟨_,e,rfl,rfl⟩
 | false=>exact ⟨_,e,rfl,rfl⟩
theorem itO_live (b:Bool) (l:Addr):(itO b l).isFreed=false:=by cases b <;> rfl
section
variable {prog:Program}{w:World}{A:Around}{E:Value→Shared→Prop}{s:Shared}
theorem call_zipX {b1 b2:Bool}{l1 l2:Addr}{xs ys:Array Value}{Q:Value→Shared→Prop} (hl1:IsX b1 s.heap l1 xs) (hl2:IsX b2 s.heap l2 ys)
  (h:∀ h',IsZip h' (s.heap.objs.size+4) (s.heap.objs.size+2) (s.heap.objs.size+3) .none→IsPair h' (s.heap.objs.size+2) (.ref s.heap.objs.size) (.ref (s.heap.objs.size+1)) →
   IsPair h' (s.heap.objs.size+3) .none .none→ItX b1 h' s.heap.objs.size l1 0→ItX b2 h' (s.heap.objs.size+1) l2 0 →
   (∀ c o,s.heap.get? c=some o→h'.get? c=some o)→Q (.ref (s.heap.objs.size+4)) { s with heap:=h' }) :
  wpAny (model prog w) A (call (.type "zip") [.ref l1,.ref l2]) Q E s:=by
 refine callType_new F.called_zip (by decide) (F.typeCall_zip_2 _ _) (F.newCall_zip_2 _ _) (fun obj=>F.args_object_init_3 obj _ _) F.entry_zip_new (zip_newX b1 b2 l1 l2 xs ys) ⟨hl1,hl2,?_⟩
 have z1:(s.heap.push (itO b1 l1)).objs.size=s.heap.objs.size+1:=Heap.size_push ..
 have z2:(zq2 s.heap b1 b2 l1 l2).objs.size=s.heap.objs.size+2:=by rw [Heap.size_push,z1]
 have z3:(zq3 s.heap b1 b2 l1 l2).objs.size=s.heap.objs.size+3:=by rw [Heap.size_push,z2]
 have z4:(zq4 s.heap b1 b2 l1 l2).objs.size=s.heap.objs.size+4:=by rw [Heap.size_push,z3]
 have g5:(zq5 s.heap b1 b2 l1 l2).get? (zq4 s.heap b1 b2 l1 l2).objs.size=some _:=Heap.get?_push_size _ rfl
 have g4:(zq5 s.heap b1 b2 l1 l2).get? (zq3 s.heap b1 b2 l1 l2).objs.size=some _:=Heap.get?_push_of_some _ (Heap.get?_push_size _ rfl)
 have g3:(zq5 s.heap b1 b2 l1 l2).get? (zq2 s.heap b1 b2 l1 l2).objs.size=some _:=Heap.get?_push_of_some _ (Heap.get?_push_of_some _ (Heap.get?_push_size _ rfl))
 have g2:(zq5 s.heap b1 b2 l1 l2).get? (s.heap.push (itO b1 l1)).objs.size=some (itO b2 l2):=Heap.get?_push_of_some _ (Heap.get?_push_of_some _ (Heap.get?_push_of_some _ (Heap.get?_push_size _ (itO_live _ _))))
 have g1:(zq5 s.heap b1 b2 l1 l2).get? s.heap.objs.size=some (itO b1 l1):=Heap.get?_push_of_some _ (Heap.get?_push_of_some _ (Heap.get?_push_of_some _ (Heap.get?_push_of_some _ (Heap.get?_push_size _ (itO_live _ _)))))
 show _∧_
 rw [z2,z3,z4] at g5
 rw [z1,z2] at g3
 rw [z3] at g4
 rw [z1] at g2
 rw [z4]
 exact ⟨⟨_,g5,rfl⟩,h _ g5 g3 g4 (itX_new g1) (itX_new g2) fun c o x =>
  Heap.get?_push_of_some _ (Heap.get?_push_of_some _ (Heap.get?_push_of_some _ (Heap.get?_push_of_some _ (Heap.get?_push_of_some _ x))))⟩
end
theorem zap_new {n l1 l2:Addr} (h1:l1<n) (h2:l2<n):ZAp (n+4) (n+2) (n+3) n (n+1) [n,l1] [n+1,l2]:=by
 constructor <;> (try simp only [List.mem_cons,List.not_mem_nil,or_false,not_or]) <;> (try refine ⟨?_,?_⟩) <;> (show ¬ ((_:Nat)=_)) <;> (simp only [Addr] at *; omega)
inductive ZgoX (b1 b2:Bool) (K:W.Frag) (H:Hp) (a b:Addr) (i:Nat):Prop
 | mk (xs ys:List V) (x y:V) (q1:SqX b1 K H a xs) (q2:SqX b2 K H b ys) (ex:xs[i]?=some x) (ey:ys[i]?=some y)
inductive ZstX (b1 b2:Bool) (K:W.Frag) (H:Hp) (a b:Addr) (i:Nat):Prop
 | mk (xs ys:List V) (q1:SqX b1 K H a xs) (q2:SqX b2 K H b ys) (ei:i=min xs.length ys.length)
noncomputable def ItzX (b1 b2:Bool) (K:W.Frag) (a b:Addr):It :=
  ⟨fun i H=>ZgoX b1 b2 K H a b i,
   fun i H v H'=>∃ T,H T=none∧v=.ref T∧∀ xs ys x y,SqX b1 K H a xs→SqX b2 K H b ys→xs[i]?=some x→ys[i]?=some y→H'=upd H T (.tup [x,y]),
   fun i H=>ZstX b1 b2 K H a b i⟩
structure ZsX (b1 b2:Bool) (z TI TO i1 i2 l1 l2:Addr) (i:Nat) (h:Heap):Prop where
 a1:IsZip h z TI TO .none
 a2:IsPair h TI (.ref i1) (.ref i2)
 a3:∃ a b,IsPair h TO a b
 a4:ItX b1 h i1 l1 i
 a5:ItX b2 h i2 l2 i
section
variable {b1 b2:Bool}{z TI TO i1 i2 l1 l2:Addr}{i:Nat}{h:Heap}
theorem ZsX.obj (st:ZsX b1 b2 z TI TO i1 i2 l1 l2 i h):∀ b∈[z,TI,TO,i1,i2],∃ o,h.get? b=some o∧∀ v,o.data≠.cell v:=by
 obtain ⟨_,_,a3⟩:=st.a3
 exact allC ⟨_,st.a1,fun v q=>by cases q⟩ (allC ⟨_,st.a2,fun v q=>by cases q⟩ (allC ⟨_,a3,fun v q=>by cases q⟩ (allC st.a4.obj (allC st.a5.obj allN))))
theorem ZsX.ne (st:ZsX b1 b2 z TI TO i1 i2 l1 l2 i h) {T:Addr} (hT:h.objs.size≤T):∀ b∈[z,TI,TO,i1,i2],b≠T:=fun b hb=>by
 obtain ⟨o,e,_⟩:=st.obj b hb
 exact Nat.ne_of_lt (Nat.lt_of_lt_of_le (Heap.lt_size e) hT)
theorem zsub:∀ b∈[z,TO,i1,i2],b∈[z,TI,TO,i1,i2]:=allC (by simp) (allC (by simp) (allC (by simp) (allC (by simp) allN)))
inductive ZFX (b1 b2:Bool) (X:Cx) (s:Shared) (H:Hp) (l1 l2:Addr) (i:Nat):Prop
 | mk (xs ys:List V) (x y:V) (t1 t2:List Value) (u1 u2:Value) (q1:SqX b1 X.K H l1 xs) (q2:SqX b2 X.K H l2 ys) (ex:xs[i]?=some x) (ey:ys[i]?=some y) (p1:IsX b1 s.heap l1 t1.toArray) (p2:IsX b2 s.heap l2 t2.toArray)
  (e1:t1[i]?=some u1) (e2:t2[i]?=some u2) (r1:RelV x u1) (r2:RelV y u2)
variable {X:Cx}{pins:List (Addr × Obj)}{σ:St}{H:Hp}{s:Shared}
theorem zfX (I:Inv X pins σ H s) (hg:ZgoX b1 b2 X.K H l1 l2 i):ZFX b1 b2 X s H l1 l2 i:=by
 obtain ⟨xs,ys,x,y,q1,q2,ex,ey⟩:=hg
 obtain ⟨its1,r1,p1⟩:=I.sqX q1
 obtain ⟨its2,r2,p2⟩:=I.sqX q2
 obtain ⟨u1,e1,ru1⟩:=r1.get ex
 obtain ⟨u2,e2,ru2⟩:=r2.get ey
 exact ⟨xs,ys,x,y,its1,its2,u1,u2,q1,q2,ex,ey,p1,p2,e1,e2,ru1,ru2⟩
theorem zvX {t1 t2:List Value}{u1 u2:Value}{vals:Array Value} (e1:t1[i]?=some u1) (e2:t2[i]?=some u2) (hv:∃ v1 v2,t1.toArray[i]?=some v1∧t2.toArray[i]?=some v2∧vals=#[v1,v2]):vals=#[u1,u2]:=by
 obtain ⟨v1,v2,g1,g2,rfl⟩:=hv
 rw [List.getElem?_toArray,e1] at g1
 rw [List.getElem?_toArray,e2] at g2
 cases g1; cases g2; rfl
theorem zyX (I:Inv X pins σ H s) {xs ys:List V}{x y:V} (q1:SqX b1 X.K H l1 xs) (q2:SqX b2 X.K H l2 ys) (ex:xs[i]?=some x) (ey:ys[i]?=some y) {T:Addr} (xs' ys':List V) (x' y':V) (s1:SqX b1 X.K H l1 xs') (s2:SqX b2 X.K H l2 ys') (t1:xs'[i]?=some x') (t2:ys'[i]?=some y'):upd H T (.tup [x,y])=upd H T (.tup [x',y']):=by
 have h1:=I.sqX_inj q1 s1
 have h2:=I.sqX_inj q2 s2
 subst h1 h2
 rw [ex] at t1; rw [ey] at t2
 cases t1; cases t2; rfl
end
theorem turn_zipX {P:Program}{w:World}{K:PySem.W.Frag}{elts:List Expr}{k:Nat}{pos:Pos} (b1 b2:Bool) (z TI TO i1 i2 l1 l2:Addr) (D:ZAp z TI TO i1 i2 [i1,l1] [i2,l2]) (d1:l1≠i1) (d2:l2≠i2) :
  Turn P w K (.Tuple elts k pos) (ItzX b1 b2 K l1 l2) [z,TI,TO,i1,i2] z (ZsX b1 b2 z TI TO i1 i2 l1 l2) where
 mem:=by simp
 obj:=fun i h st=>st.obj
 keep:=fun i h h' ⟨a1,a2,⟨x,y,a3⟩,a4,a5⟩ kk =>
  ⟨kk z (by simp) _ a1,kk TI (by simp) _ a2,⟨x,y,kk TO (by simp) _ a3⟩,a4.keep fun o e=>kk i1 (by simp) o e,a5.keep fun o e=>kk i2 (by simp) o e⟩
 item:=by
  intro X hP hw hK hc i pins s σ H E I hf st hg
  subst hP hw hK
  obtain ⟨xs,ys,x,y,its1,its2,u1,u2,q1,q2,ex,ey,p1,p2,e1,e2,ru1,ru2⟩:=zfX I hg
  have W:=WalksT.zipD (prog:=X.prog) (w:=X.w) (I.ok.hd hc) (fun A hh=>drawsX b1 hh i1 l1 d1 its1.toArray) (fun A hh=>drawsX b2 hh i2 l2 d2 its2.toArray) D (by simp) (by simp)
  have hl1:i<its1.length:=(List.getElem?_eq_some_iff.mp e1).1
  have hl2:i<its2.length:=(List.getElem?_eq_some_iff.mp e2).1
  have hwr:∀ b∈[z,TO,i1,i2],FpOk X pins H b:=fun b hb=>hf b (zsub b hb)
  refine W.item i s _ _ (by simp only [List.size_toArray]; omega) ⟨st.a1,st.a2,st.a3,⟨st.a4,p1⟩,st.a5,p2⟩ fun T vals h' tk hv hT hIs hM kk=>?_
  have hvv:=zvX e1 e2 hv
  subst hvv
  have nT:=st.ne hT
  refine ⟨_,rfl,W.go _ _ _ i T { s with heap:=h',toks:=tk } _ _ hM fun h2 st2 kk2=>?_⟩
  have I1:Inv X pins σ (upd H T (.tup [x,y])) { s with heap:=h',toks:=tk }:=I.yields (its:=[u1,u2]) hwr kk hT (.cons ru1 (.cons ru2 .nil)) (by show 2≤sizeLine; decide) hIs
  have I2:=I1.turnedL (tk:=tk) (fp_upd hwr fun b hb=>nT b (zsub b hb)) kk2
  exact ⟨.ref T,_,I2,rfl,⟨T,I.hok.fresh hT,rfl,zyX I q1 q2 ex ey⟩,⟨st2.1,st2.2.1,st2.2.2.1,st2.2.2.2.1.1,st2.2.2.2.2.1⟩,fun b hb=>by rw [upd_ne (nT b hb)]; exact (hf b hb).1⟩
 done:=by
  intro X hP hw hK hc i pins s σ H E I hf st hg
  subst hP hw hK
  obtain ⟨xs,ys,q1,q2,ei⟩:=hg
  obtain ⟨its1,r1,p1⟩:=I.sqX q1
  obtain ⟨its2,r2,p2⟩:=I.sqX q2
  have W:=WalksT.zipD (prog:=X.prog) (w:=X.w) (I.ok.hd hc) (fun A hh=>drawsX b1 hh i1 l1 d1 its1.toArray) (fun A hh=>drawsX b2 hh i2 l2 d2 its2.toArray) D (by simp) (by simp)
  have en:i=min its1.toArray.size its2.toArray.size:=by simp only [List.size_toArray,← r1.length,← r2.length]; exact ei
  refine W.done s _ _ (by rw [← en]; exact ⟨st.a1,st.a2,st.a3,⟨st.a4,p1⟩,st.a5,p2⟩) fun h' tk kk=>?_
  exact ⟨rfl,I.turnedL (fun b hb=>hf b (zsub b hb)) kk⟩
 self:=fun _ _ _ _ _ st h=>wpAny_pyIter_zip st.a1 h
section
variable {X:Cx}
noncomputable def iZipX (K:W.Frag) (ta:TA):TI:=fun σ H R=>ta σ H fun vs H1=>∃ a b b1 b2,vs=[.ref a,.ref b]∧(∃ xs,SqX b1 K H1 a xs)∧(∃ ys,SqX b2 K H1 b ys)∧R (ItzX b1 b2 K a b) H1
theorem pi_zipX {elts:List Expr}{k:Nat}{tpos:Pos}{a b:Expr}{ta:TA}{p pos:Pos} (hg:Gl X "zip") (hm:X.mg "zip"=none) (ha:PA X [a,b] ta) (hs:starEach [a,b] X.env=[(false,eval a X.env),(false,eval b X.env)]:=by rfl) (hs2:starEach [b] X.env=[(false,eval b X.env)]:=by rfl) :
  PI X (.Tuple elts k tpos) (.Call (.Name "zip" p) [a,b] [] pos) (iZipX X.K ta):=by
 intro pins s σ H R I h
 refine Call_ (ld_blt I hg hm bt_zip (PyProof.Rows.callWith_type1 (thn (ha pos pins s σ H _ I h) fun us s1 ⟨vs,H1,I1,r1,q1⟩=>?_) (by rw [hs,hs2]) (by rw [hs2]; rfl)))
 obtain ⟨l1,l2,b1,b2,e,⟨xs,h1⟩,⟨ys,h2⟩,q⟩:=q1
 subst e
 cases r1 with
 | cons r rr =>
  cases rr with
  | cons r' rr =>
   cases rr
   cases r
   cases r'
   obtain ⟨its1,v1,p1⟩:=I1.sqX h1
   obtain ⟨its2,v2,p2⟩:=I1.sqX h2
   refine call_zipX p1 p2 fun h' hz hTI hTO hi1 hi2 hk=>?_
   refine wpAny_pyIter_zip hz ?_
   have I2:Inv X pins σ H1 { s1 with heap:=h' }:=I1.kept (t':=s1.toks) hk
   refine ⟨_,_,_,_,H1,rfl,I2,turn_zipX b1 b2 _ _ _ _ _ l1 l2 (zap_new p1.lt p2.lt) (Nat.ne_of_lt p1.lt) (Nat.ne_of_lt (Nat.lt_succ_of_lt p2.lt)),⟨hz,hTI,⟨_,_,hTO⟩,hi1,hi2⟩,fun b hb=>?_,q⟩
   have hle:s1.heap.objs.size≤b:=by
    simp only [List.mem_cons,List.not_mem_nil,or_false] at hb
    rcases hb with rfl | rfl | rfl | rfl | rfl
    ·exact Nat.le_add_right _ _
    ·exact Nat.le_add_right _ _
    ·exact Nat.le_add_right _ _
    ·exact Nat.le_refl _
    ·exact Nat.le_add_right _ _
   exact I1.fpOk hle (I1.hok.fresh hle)
end
open PySem PySem.Spec PyProof.Rows
section
variable {X:Cx}{pins:List (Addr × Obj)}{σ:St}{H:Hp}{s:Shared}{scope:Scope}{N:List Str}{C:Addr}{ex:List Addr}
theorem ps_compSet {elt iter tg:Expr}{ifs:List Expr}{pos pos' spos:Pos}{y0:Str}{go:TG} (hgo:PG X (.Name y0 pos') go) (hsw:swapsWith (.ListComp elt [⟨tg,iter,ifs,0⟩] scope pos) (some (.Name y0 pos')) spos.line X.env=pure true) {wi:TI}{g:TG}{tc:TT}{te:TE}{k:Nat}{js:List Nat}
  (B:CompH X scope N k js) (hi:PI X tg iter wi)
  (hg:∀ cl s H C ex,PG (cxComp X scope N cl s H C ex) tg g) (htc:∀ cl s H C ex,PTs (cxComp X scope N cl s H C ex) ifs tc) (hte:∀ cl s H C ex,PE (cxComp X scope N cl s H C ex) elt te)
  (hs:∀ x,foldedSetIterable iter X.env x=pure x:=by intro _; rfl):PS X (.Assign [.Name y0 pos'] (.ListComp elt [⟨tg,iter,ifs,0⟩] scope pos) spos) (tAsg (tComp wi k js g tc te) go):=by
 intro pins s σ H D0 I h
 rw [exec_Assign_Name_used _ _ _ _ hsw]
 refine wpAny_bind (wpAny_standAt (wpAny_bind ?_))
 show wpAny _ X.A (do let _ ← comprehension (.ListComp elt [⟨tg,iter,ifs,0⟩] scope pos) scope X.env _ (newList []) false (eval iter X.env) (some (assign (.Name y0 pos') X.env))) _ _ s
 refine wpAny_bind (wpAny_mono (wpAny_comprehension_free (use:=some (assign (.Name y0 pos') X.env)) (Q:=fun _ s'=>SP X pins D0 .next s') rfl hs (closureFor_ok fun x hx=>I.ok.has x (B.free x hx)) B.kind B.names (thn (hi pins s σ H _ I h) fun v s1 h1=>thn h1 fun itv s2 h2=>?_)) (fun _ s' hq=>wpAny_pure (wpAny_pure hq)) fun _ _ e=>e)
 obtain ⟨it,fp,tn,J,H2,e,I2,T,st2,f2,hW⟩:=h2
 subst e
 refine comp_run (Q:=fun x H1=>go x σ H1 D0.nx) B I2 T st2 f2 hg htc hte hW fun cl C H4 s5 hCle hDC I5 q=>?_
 obtain ⟨m,hn,_⟩:=id I5.loc
 have hC4:H4 C=none:=I5.free
 have IA:Inv X pins σ H4 s5:=I2.call' (s':=s5) (ch:=fp) I5.os I5.base I5.hok I5.bare (fun b hb=>⟨(f2 b hb).2.2.2.1,(f2 b hb).2.1,(f2 b hb).2.2.2.2.1,(f2 b hb).2.2.2.2.2⟩)
 have fC:∀ {H':Hp},H' C=none→∀ b∈[C],FpOk X pins H' b:=fun hn b hb=>by
  have:b=C:=by simpa using hb
  subst this
  exact I2.fpOk hCle hn
 have oC:∀ b∈[C],∃ o,s5.heap.get? b=some o∧∀ v,o.data≠.cell v:=fun b hb=>by
  have:b=C:=by simpa using hb
  subst this
  obtain ⟨o,_,_,ho,hd,_⟩:=id hn
  exact ⟨o,ho,fun v z=>by rw [hd] at z; cases z⟩
 have IB:=IA.pinned (fC hC4) oC
 refine thn (hgo _ s5 σ H4 (.ref s2.heap.objs.size) (.ref s2.heap.objs.size) _ IB rfl q) fun _ s6 ⟨σ6,H6,I6,q6⟩=>?_
 obtain ⟨oc,hoc,_⟩:=oC C (by simp)
 have hp6:=I6.pin (C,oc) (List.mem_append_right _ (List.mem_append_right _ (mem_pinsAt (by simp) hoc)))
 refine ⟨m,hn.at' fun o e=>?_,fun h' hs'=>⟨σ6,H6,?_,q6⟩⟩
 ·have e':s5.heap.get? C=some o:=e
  rw [hoc] at e'; cases e'; exact hp6.1
 ·exact I6.unpinned.turnedL (wr:=[C]) (tk:=s6.toks) (fC hp6.2.1) fun b o nb e=>hs'.extBut b o (by simpa using nb) e
end
open PySem PySem.Spec PyProof.Rows
abbrev IsTri (h:Heap) (T:Addr) (a b c:Value):Prop:=h.get? T=some { cls:=.type "tuple",data:=.seq #[a,b,c] }
structure ZAp3 (z TI TO i1 i2 i3:Addr) (f1 f2 f3:List Addr):Prop where
 TIz:TI≠z
 TOz:TO≠z
 i1z:i1≠z
 i2z:i2≠z
 i3z:i3≠z
 TITO:TI≠TO
 TIi1:TI≠i1
 TIi2:TI≠i2
 TIi3:TI≠i3
 TOi1:TO≠i1
 TOi2:TO≠i2
 TOi3:TO≠i3
 z1:z∉f1
 z2:z∉f2
 z3:z∉f3
 O1:TO∉f1
 O2:TO∉f2
 O3:TO∉f3
 a12:i1∉f2
 a13:i1∉f3
 a21:i2∉f1
 a23:i2∉f3
 a31:i3∉f1
 a32:i3∉f2
inductive Zgo3 (K:W.Frag) (H:Hp) (a b c:Addr) (i:Nat):Prop
 | mk (xs ys us:List V) (x y u:V) (q1:SqL K H a xs) (q2:SqT K H b ys) (q3:SqT K H c us) (ex:xs[i]?=some x) (ey:ys[i]?=some y) (eu:us[i]?=some u)
inductive Zst3 (K:W.Frag) (H:Hp) (a b c:Addr) (i:Nat):Prop
 | mk (xs ys us:List V) (q1:SqL K H a xs) (q2:SqT K H b ys) (q3:SqT K H c us) (ei:i=min xs.length (min ys.length us.length))
structure Zs3 (z TI TO i1 i2 i3 l1 l2 l3:Addr) (i:Nat) (h:Heap):Prop where
 a1:IsZip h z TI TO .none
 a2:IsTri h TI (.ref i1) (.ref i2) (.ref i3)
 a3:∃ a b c,IsTri h TO a b c
 a4:ItX false h i1 l1 i
 a5:ItX true h i2 l2 i
 a6:ItX true h i3 l3 i
section
variable {z TI TO i1 i2 i3 l1 l2 l3:Addr}{i:Nat}{h:Heap}
theorem Zs3.obj (st:Zs3 z TI TO i1 i2 i3 l1 l2 l3 i h):∀ b∈[z,TI,TO,i1,i2,i3],∃ o,h.get? b=some o∧∀ v,o.data≠.cell v:=by
 obtain ⟨_,_,_,a3⟩:=st.a3
 exact allC ⟨_,st.a1,fun v q=>by cases q⟩ (allC ⟨_,st.a2,fun v q=>by cases q⟩ (allC ⟨_,a3,fun v q=>by cases q⟩ (allC st.a4.obj (allC st.a5.obj (allC st.a6.obj allN)))))
theorem Zs3.ne (st:Zs3 z TI TO i1 i2 i3 l1 l2 l3 i h) {T:Addr} (hT:h.objs.size≤T):∀ b∈[z,TI,TO,i1,i2,i3],b≠T:=fun b hb=>by
 obtain ⟨o,e,_⟩:=st.obj b hb
 exact Nat.ne_of_lt (Nat.lt_of_lt_of_le (Heap.lt_size e) hT)
inductive ZF3 (X:Cx) (s:Shared) (H:Hp) (l1 l2 l3:Addr) (i:Nat):Prop
 | mk (xs ys us:List V) (x y u:V) (t1 t2 t3:List Value) (u1 u2 u3:Value) (q1:SqL X.K H l1 xs) (q2:SqT X.K H l2 ys) (q3:SqT X.K H l3 us) (ex:xs[i]?=some x) (ey:ys[i]?=some y) (eu:us[i]?=some u)
  (p1:IsX false s.heap l1 t1.toArray) (p2:IsX true s.heap l2 t2.toArray) (p3:IsX true s.heap l3 t3.toArray) (e1:t1[i]?=some u1) (e2:t2[i]?=some u2) (e3:t3[i]?=some u3) (r1:RelV x u1) (r2:RelV y u2) (r3:RelV u u3)
variable {X:Cx}{pins:List (Addr × Obj)}{σ:St}{H:Hp}{s:Shared}
end
open PySem PySem.Spec PyProof.Rows
section
variable {X:Cx}
theorem truth_ints {A:Around}{prog:Program}{w:World}{ns:List Int}{its:List Value} (r:Vals (ns.map V.int) its):TruthOf prog w A (fun i v=>its.toArray[i]?=some v) (fun i=>(ns.map (· != 0)).getD i false):=by
 intro i v s Q E hv hq
 have hv':its[i]?=some v:=by simpa using hv
 have hl:i<ns.length:=by
  have h1:=(List.getElem?_eq_some_iff.mp hv').1
  have h2:=r.length
  rw [List.length_map] at h2
  omega
 obtain ⟨u,e,ru⟩:=Vals.get r (i:=i) (x:=.int ns[i]) (by rw [List.getElem?_map,List.getElem?_eq_getElem hl]; rfl)
 rw [e] at hv'
 cases hv'
 obtain ⟨t,rfl⟩:=ru
 have eq:(ns.map (· != 0)).getD i false=(ns[i] != 0):=by simp [List.getD,hl]
 have hq':Q ((ns.map (· != 0)).getD i false) s:=hq
 rw [eq] at hq'
 exact PyProof.Rows.truthy_int hq'
theorem call_allT (hc:X.calm=true):CallR X (.builtin "all") (fun vs H Q=>∃ (p:Addr) (ns:List Int),vs=[.ref p]∧SqT X.K H p (ns.map V.int)∧Q (.bl (ns.all (· != 0))) H):=by
 intro pins s σ H xs us Q I r h
 obtain ⟨p,ns,rfl,hq,q⟩:=h
 obtain ⟨u,rfl,ru⟩:=vals1 r
 cases ru
 obtain ⟨its,rv,pl,hz⟩:=I.tuple hq
 have pl':s.heap.IsTuple p its.toArray:=pl
 have hlt:p<s.heap.objs.size:=by obtain ⟨_,e,_⟩:=pl'; exact Heap.lt_size e
 have hlen:=rv.length
 rw [List.length_map] at hlen
 refine call_all_walk (wpAny_pyIter_tuple pl' ?_)
 refine ⟨s.heap.objs.size,_,[s.heap.objs.size],_,_,_,_,rfl,Walks.tuple (A:=X.A.in1) (show X.A.in1.handled=none from I.ok.hd hc) s.heap.objs.size p (Nat.ne_of_lt hlt) its.toArray,⟨⟨_,Heap.get?_push_size _ rfl,rfl,rfl⟩,pl'.push _⟩,truth_ints rv,fun h' tk kk=>?_⟩
 have e:(List.range its.toArray.size).all (fun i=>(ns.map (· != 0)).getD i false)=ns.all (· != 0):=by rw [List.size_toArray,← hlen,show ns.length=(ns.map (· != 0)).length by simp,range_all,List.all_map]; rfl
 rw [e]
 refine ⟨.bl (ns.all (· != 0)),H,?_,rfl,q⟩
 exact I.kept (t':=tk) fun b o eb=>kk b o (by simp only [List.mem_singleton]; exact Nat.ne_of_lt (Heap.lt_size eb)) (Heap.get?_push_of_some _ eb)
theorem call_anyT (hc:X.calm=true):CallR X (.builtin "any") (fun vs H Q=>∃ (p:Addr) (ns:List Int),vs=[.ref p]∧SqT X.K H p (ns.map V.int)∧Q (.bl (ns.any (· != 0))) H):=by
 intro pins s σ H xs us Q I r h
 obtain ⟨p,ns,rfl,hq,q⟩:=h
 obtain ⟨u,rfl,ru⟩:=vals1 r
 cases ru
 obtain ⟨its,rv,pl,hz⟩:=I.tuple hq
 have pl':s.heap.IsTuple p its.toArray:=pl
 have hlt:p<s.heap.objs.size:=by obtain ⟨_,e,_⟩:=pl'; exact Heap.lt_size e
 have hlen:=rv.length
 rw [List.length_map] at hlen
 refine call_any_walk (wpAny_pyIter_tuple pl' ?_)
 refine ⟨s.heap.objs.size,_,[s.heap.objs.size],_,_,_,_,rfl,Walks.tuple (A:=X.A.in1) (show X.A.in1.handled=none from I.ok.hd hc) s.heap.objs.size p (Nat.ne_of_lt hlt) its.toArray,⟨⟨_,Heap.get?_push_size _ rfl,rfl,rfl⟩,pl'.push _⟩,truth_ints rv,fun h' tk kk=>?_⟩
 have e:(List.range its.toArray.size).any (fun i=>(ns.map (· != 0)).getD i false)=ns.any (· != 0):=by rw [List.size_toArray,← hlen,show ns.length=(ns.map (· != 0)).length by simp,range_any,List.any_map]; rfl
 rw [e]
 refine ⟨.bl (ns.any (· != 0)),H,?_,rfl,q⟩
 exact I.kept (t':=tk) fun b o eb=>kk b o (by simp only [List.mem_singleton]; exact Nat.ne_of_lt (Heap.lt_size eb)) (Heap.get?_push_of_some _ eb)
end
open PySem PySem.Spec PyProof.Rows
def Raw (h:Heap) (d:Addr) (es:Array DictEntry) (ep:Nat):Prop:=∃ o,h.get? d=some o∧o.cls=.type "dict"∧o.data=.dict es ep
theorem Raw.at {h h':Heap}{d:Addr}{es:Array DictEntry}{ep:Nat} (x:Raw h d es ep) (e:∀ o,h.get? d=some o→h'.get? d=some o):Raw h' d es ep:=let ⟨o,ho,r⟩:=x; ⟨o,e o ho,r⟩
theorem Raw.lt {h:Heap}{d:Addr}{es:Array DictEntry}{ep:Nat} (x:Raw h d es ep):d<h.objs.size:=let ⟨_,ho,_⟩:=x; Heap.lt_size ho
open PySem PySem.Spec PyProof.Rows
section
variable {prog:Program}{w:World}{A:Around}{E:Value→Shared→Prop}{s:Shared}{z TI TO i1 i2:Addr}{f1 f2:List Addr}{n1 n2 k:Nat}{P1 P2:Nat→Value→Prop}{S1 S2:Nat→Heap→Prop}
abbrev IsZipB (h:Heap) (z TI TO T:Addr) (b:Bool):Prop:=h.get? z=some { cls:=.type "zip",data:=.fields #[rawInt T,.bool b,.bool false,.ref TI,.ref TO] }
inductive ZWay (z TI TO:Addr) (h:Heap):Prop
 | fresh (e:IsZip h z TI TO .none)
 | busy (T:Addr) (oT:Obj) (b:Bool) (e:IsZipB h z TI TO T b) (a:h.get? T=some oT) (nz:T≠z) (n1:T≠TO)
structure ZRun (z TI TO i1 i2:Addr) (S1 S2:Nat→Heap→Prop) (k:Nat) (h:Heap):Prop where
 way:ZWay z TI TO h
 ti:IsPair h TI (.ref i1) (.ref i2)
 to:∃ a b,IsPair h TO a b
 s1:S1 k h
 s2:S2 k h
end
open PySem PySem.Spec PyProof.Rows
section
variable {prog:Program}{w:World}{A:Around}{z TI TO i1 i2 d:Addr}{f1 f2:List Addr}{n1 n2:Nat}{P1 P2:Nat→Value→Prop}{S1 S2:Nat→Heap→Prop}
noncomputable abbrev TK2 (prog:Program) (w:World):=tupleKind (mixKind prog w)
def DRaw (prog:Program) (w:World) (h:Heap) (d:Addr) (xs:List (List Key × Addr × Value)):Prop:=∃ o es ep,h.get? d=some o∧o.ExactDict∧o.data=.dict es ep∧es.toList=xs.map (entryOfKey (TK2 prog w))∧(xs.map (·.1)).Nodup
theorem DRaw.of {h:Heap}{xs:List (List Key × Addr × Value)} (x:h.DictOfH (TK2 prog w) d xs):DRaw prog w h d xs:=let ⟨o,es,ep,a,b,c,e,_,f⟩:=x; ⟨o,es,ep,a,b,c,e,f⟩
theorem DRaw.at {h h':Heap}{xs:List (List Key × Addr × Value)} (x:DRaw prog w h d xs) (e:∀ o,h.get? d=some o→h'.get? d=some o):DRaw prog w h' d xs:=let ⟨o,es,ep,a,r⟩:=x; ⟨o,es,ep,e o a,r⟩
theorem ZRun.frame {h h':Heap}{k:Nat} (r:ZRun z TI TO i1 i2 S1 S2 k h) (D1:Draws prog w A i1 f1 n1 P1 S1) (D2:Draws prog w A i2 f2 n2 P2 S2) (e:∀ c o,c≠d→h.get? c=some o→h'.get? c=some o) (hd:∃ o,h'.get? d=some o) (nz:d≠z) (ni:d≠TI) (no:d≠TO) (m1:d∉f1) (m2:d∉f2):ZRun z TI TO i1 i2 S1 S2 k h':=by
 obtain ⟨way,ti,⟨a,b,to⟩,s1,s2⟩:=r
 refine ⟨?_,e _ _ ni.symm ti,⟨a,b,e _ _ no.symm to⟩,D1.frame _ _ _ s1 fun c hc o q=>e c o (fun z=>m1 (z▸hc)) q,D2.frame _ _ _ s2 fun c hc o q=>e c o (fun z=>m2 (z▸hc)) q⟩
 rcases way with hz | ⟨T,oT,bb,hz,hT,n1,n2⟩
 ·exact .fresh (e _ _ nz.symm hz)
 ·by_cases q:T=d
  ·subst q
   obtain ⟨o,ho⟩:=hd
   exact .busy T o bb (e _ _ nz.symm hz) ho n1 n2
  ·exact .busy T oT bb (e _ _ nz.symm hz) (e _ _ q hT) n1 n2
structure ZAll (prog:Program) (w:World) (z TI TO i1 i2 d:Addr) (f1 f2:List Addr) (n1 n2:Nat) (P1 P2:Nat→Value→Prop) (S1 S2:Nat→Heap→Prop) (ks:List (List Key × Addr × Value)) (h0:Heap):Prop where
 D1:∀ A:Around,A.handled=none→Draws prog w A i1 f1 n1 P1 S1
 D2:∀ A:Around,A.handled=none→Draws prog w A i2 f2 n2 P2 S2
 ap:ZAp z TI TO i1 i2 f1 f2
 m1:i1∈f1
 m2:i2∈f2
 n:ks.length=min n1 n2
 p1:∀ i x q,P1 i x→ks[i]?=some q→x=.ref q.2.1
 p2:∀ i y q,P2 i y→ks[i]?=some q→y=q.2.2
 key:∀ q∈ks,(TK2 prog w).is h0 q.1 q.2.1
 fr:∀ c o,h0.get? c=some o→c≠z∧c≠TO∧c≠i1∧c≠i2∧c≠d
 nz:d≠z
 ni:d≠TI
 no:d≠TO
 d1:d∉f1
 d2:d∉f2
end
open PySem PySem.Spec PyProof.Rows
noncomputable def KRw (H:Hp):List (List Key)→List V→Prop:=Paired fun k v=>∃ a,v=.ref a∧H a=some (.tup (k.map kV))
noncomputable def foldP (kvs ps:List (List Key × V)):List (List Key × V):=ps.foldl (fun acc q=>putK acc q.1 q.2) kvs
noncomputable def stoF (zs ks:List (List Key × Addr × Value)):List (List Key × Addr × Value):=ks.foldl (fun a q=>storedH a q.1 q.2.1 q.2.2) zs
inductive KFold (H:Hp) (kvs:List (List Key × V)) (zs:List (List Key × Addr × Value)) (ps:List (List Key × V)) (u1 u2:List Value):Prop
 | mk (ks:List (List Key × Addr × Value)) (r:KT H (foldP kvs ps) (stoF zs ks)) (n:ks.length=min u1.length u2.length) (p1:∀ (i:Nat) (x:Value) (q:List Key × Addr × Value),u1[i]?=some x→ks[i]?=some q→x=.ref q.2.1) (p2:∀ (i:Nat) (y:Value) (q:List Key × Addr × Value),u2[i]?=some y→ks[i]?=some q→y=q.2.2) (k:∀ q∈ks,H q.2.1=some (.tup (q.1.map kV)))
section
variable {X:Cx}{a b:Expr}{ta:TA}{p p2 pos pos2:Pos}
theorem KRw.length {H:Hp}{kks:List (List Key)}{xs:List V} (r:KRw H kks xs):kks.length=xs.length:=Paired.length r
end
open PySem PySem.Spec PyProof.Rows
inductive FzD (X:Cx) (H:Hp) (h:Heap) (a:Addr) (o:Obj) (kvs:List (List Key × V)):Prop
 | mk (es:Array DictEntry) (ep:Nat) (xs:List (List Key × Addr × Value)) (g:h.get? a=some o) (c:o.cls=.type "dict") (d:o.data=.dict es ep) (r:KT H kvs xs) (e:es.toList=xs.map (entryOfKey (tupleKind (mixKind X.prog X.w)))) (lo:(a == sysModules)=false) (z:kvs.length≤sizeLine)
open PySem PySem.Spec PyProof.Rows
def Rs (xs:Array Nat):Prop:=xs.toList.Pairwise (·<·)
theorem Rs.get {xs:Array Nat} (h:Rs xs) {i j a b:Nat} (ha:xs[i]?=some a) (hb:xs[j]?=some b) (l:i<j):a<b:=by
 rw [← Array.getElem?_toList] at ha hb
 obtain ⟨hi,rfl⟩:=List.getElem?_eq_some_iff.mp ha
 obtain ⟨hj,rfl⟩:=List.getElem?_eq_some_iff.mp hb
 exact List.pairwise_iff_getElem.mp h i j hi hj l
def Bl (xs:Array Nat) (j r:Nat):Prop:=r≤xs.size∧(∀ i a,xs[i]?=some a→i<r→a<j)∧∀ i a,xs[i]?=some a→r≤i→j≤a
theorem below_go {xs:Array Nat} (h:Rs xs) (j:Nat):∀ (n lo hi:Nat),hi - lo≤n→lo≤hi→hi≤xs.size→(∀ i a,xs[i]?=some a→i<lo→a<j)→(∀ i a,xs[i]?=some a→hi≤i→j≤a)→Bl xs j (SetTable.below.go xs j n lo hi)
 | 0,lo,hi,h1,h2,h3,h4,h5=>by
  have e:lo=hi:=by omega
  subst e
  exact ⟨h3,h4,h5⟩
 | n+1,lo,hi,h1,h2,h3,h4,h5=>by
  unfold SetTable.below.go
  split
  ·rename_i hl
   have hm:(lo+hi) / 2<xs.size:=by omega
   have hx:xs[(lo+hi) / 2]?=some xs[(lo+hi) / 2]:=Array.getElem?_eq_getElem hm
   have hg:xs.getD ((lo+hi) / 2) j=xs[(lo+hi) / 2]:=by simp [Array.getD,hm]
   simp only [hg]
   split
   ·rename_i hs
    refine below_go h j n _ hi (by omega) (by omega) h3 (fun i a ha hi2=>?_) h5
    by_cases e:i=(lo+hi) / 2
    ·subst e
     rw [hx] at ha
     cases ha
     exact hs
    ·exact Nat.lt_trans (h.get ha hx (by omega)) hs
   ·rename_i hs
    refine below_go h j n lo _ (by omega) (by omega) (by omega) h4 (fun i a ha hi2=>?_)
    by_cases e:i=(lo+hi) / 2
    ·subst e
     rw [hx] at ha
     cases ha
     omega
    ·have:=h.get hx ha (by omega)
     omega
  ·have e:lo=hi:=by omega
   subst e
   exact ⟨h3,h4,h5⟩
theorem below_bl {xs:Array Nat} (h:Rs xs) (j:Nat):Bl xs j (SetTable.below xs j):=by
 refine below_go h j _ 0 xs.size (by omega) (by omega) (Nat.le_refl _) (fun i a _ l=>absurd l (Nat.not_lt_zero _)) fun i a ha l=>?_
 have:i<xs.size:=by
  rcases Nat.lt_or_ge i xs.size with g | g
  ·exact g
  ·rw [Array.getElem?_eq_none g] at ha; cases ha
 omega
theorem Rs.insert {xs:Array Nat} (h:Rs xs) {j:Nat} (hn:xs[SetTable.below xs j]?≠some j):Rs (SetTable.insertAt xs (SetTable.below xs j) j):=by
 obtain ⟨b1,b2,b3⟩:=below_bl h j
 unfold Rs
 rw [SetTable.toList_insertAt]
 have e:xs.toList=xs.toList.take (SetTable.below xs j)++xs.toList.drop (SetTable.below xs j):=(List.take_append_drop _ _).symm
 have h':=h
 unfold Rs at h'
 rw [e,List.pairwise_append] at h'
 obtain ⟨p1,p2,p3⟩:=h'
 have q1:∀ a∈xs.toList.take (SetTable.below xs j),a<j:=fun a ha=>by
  obtain ⟨i,hi,rfl⟩:=List.getElem_of_mem ha
  rw [List.length_take] at hi
  refine b2 i _ ?_ (by omega)
  rw [← Array.getElem?_toList,List.getElem_take]
  exact List.getElem?_eq_getElem _
 have q2:∀ a∈xs.toList.drop (SetTable.below xs j),j<a:=fun a ha=>by
  obtain ⟨i,hi,rfl⟩:=List.getElem_of_mem ha
  rw [List.length_drop] at hi
  have g:xs[SetTable.below xs j+i]?=some ((xs.toList.drop (SetTable.below xs j))[i]):=by
   rw [← Array.getElem?_toList,List.getElem_drop]
   exact List.getElem?_eq_getElem _
  have l:=b3 _ _ g (by omega)
  rcases Nat.lt_or_eq_of_le l with l | l
  ·exact l
  ·exfalso
   by_cases e0:i=0
   ·subst e0
    rw [← l] at g
    exact hn g
   ·have hlt:SetTable.below xs j<xs.size:=by rw [Array.length_toList] at hi; omega
    have hr:xs[SetTable.below xs j]?=some xs[SetTable.below xs j]:=Array.getElem?_eq_getElem hlt
    have:=h.get hr g (by omega)
    have:=b3 _ _ hr (Nat.le_refl _)
    omega
 rw [List.pairwise_append,List.pairwise_cons]
 refine ⟨p1,⟨q2,p2⟩,fun a ha b hb=>?_⟩
 rcases List.mem_cons.mp hb with rfl | hb
 ·exact q1 a ha
 ·exact p3 a ha b hb
theorem slot_free {t:SetTable}{j:Nat} (h:(∃ i,t.slot j=.live i)→False):t.place[SetTable.below t.place j]?≠some j:=by
 intro e
 refine h ⟨SetTable.below t.place j,?_⟩
 unfold SetTable.slot
 simp only [e,beq_self_eq_true,if_true]
theorem probe_go {t:SetTable}{f:Nat→Int}{h:Int}:∀ (n:Nat) (p:SetTable.Probe) {j:Nat}{d:Option Nat},(∀ x,p.dummy=some x→t.place[SetTable.below t.place x]?≠some x)→SetTable.probe.go t f h n p=some (.empty j d)→t.place[SetTable.below t.place (d.getD j)]?≠some (d.getD j)
 | 0,p,j,d,hp,e=>by cases e
 | n+1,p,j,d,hp,e=>by
  unfold SetTable.probe.go at e
  have adv:∀ q:SetTable.Probe,(t.advance q).dummy=q.dummy:=fun q=>by
   unfold SetTable.advance
   split <;> rfl
  split at e
  ·rename_i hs
   cases e
   cases hd:p.dummy with
   | none=>exact slot_free fun ⟨i,hi⟩=>by rw [show (none:Option Nat).getD p.j=p.j from rfl,hs] at hi; cases hi
   | some x=>exact hp x hd
  ·rename_i hs
   refine probe_go n _ (fun x hx=>?_) e
   rw [adv] at hx
   cases hx
   exact slot_free fun ⟨i,hi⟩=>by rw [hs] at hi; cases hi
  ·split at e
   ·cases e
   ·exact probe_go n _ (fun x hx=>hp x (by rw [adv] at hx; exact hx)) e
theorem freeSlot_free {t:SetTable}{h:Int}{j:Nat}{b:Bool} (e:t.freeSlot h=some (j,b)):t.place[SetTable.below t.place j]?≠some j:=by
 unfold SetTable.freeSlot at e
 split at e
 ·rename_i j' d he
  cases e
  exact probe_go _ _ (fun x hx=>by simp [SetTable.probeStart] at hx) he
 ·cases e
structure TOk (bt:Bool) (t:SetTable):Prop where
 led:t.led=!bt
 up:t.plain=true→Rs t.place
theorem TOk.fresh (bt:Bool):TOk bt (.fresh 0 0 (!bt)):=⟨rfl,fun _=>by simp [SetTable.fresh,Rs]⟩
theorem TOk.standIn {bt:Bool}{t:SetTable} (h:TOk bt t) (n:Nat):TOk bt (t.standIn n):=⟨h.led,fun e=>by cases e⟩
theorem TOk.layNew {bt:Bool}{t:SetTable} (k:TOk bt t) (es:Array (Int × Value)) (h:Int) (x:Value):TOk bt (layNew t es h x).2.1:=by
 unfold PySem.layNew
 split
 ·rename_i j b e
  show TOk bt (SetTable.orStandIn (t.put j).1 _)
  have k1:TOk bt (t.put j).1:=⟨k.led,fun p=>(k.up p).insert (freeSlot_free e)⟩
  unfold SetTable.orStandIn
  split
  ·exact k1
  ·exact k1.standIn _
 ·exact k.standIn _
theorem laid_up {m f v:Nat}{l p:Bool}{hs:Array Int}{t:SetTable}{o:Array Nat} (e:SetTable.laid m f v l p hs=some (t,o)):t.led=l∧t.plain=p∧Rs t.place:=by
 unfold SetTable.laid at e
 obtain ⟨ow,_,e⟩:=Option.bind_eq_some_iff.mp e
 cases e
 refine ⟨rfl,rfl,?_⟩
 have e2:∀ ks:List Nat,(ks.filterMap fun j=>(ow.getD j none).map (j,·)).map (·.1)=ks.filter fun j=>(ow.getD j none).isSome:=by
  intro ks
  induction ks with
  | nil=>rfl
  | cons a ks ih =>
   cases h:ow.getD a none with
   | none=>rw [List.filterMap_cons_none (by rw [h]; rfl),List.filter_cons_of_neg (by rw [h]; exact Bool.false_ne_true),ih]
   | some b=>rw [List.filterMap_cons_some (b:=(a,b)) (by rw [h]; rfl),List.filter_cons_of_pos (by rw [h]; rfl),List.map_cons,ih]
 show List.Pairwise (·<·) (((List.range (m+1)).filterMap fun j=>(ow.getD j none).map (j,·)).map (·.1))
 rw [e2]
 exact List.Pairwise.filter _ List.pairwise_lt_range
theorem TOk.relayAll {bt:Bool}{t:SetTable} (k:TOk bt t) (es:Array (Int × Value)) (n:Nat):TOk bt (relayAll t es n).2.1:=by
 unfold PySem.relayAll
 split
 ·rename_i t' o e
  obtain ⟨h1,h2,h3⟩:=laid_up e
  dsimp only
  split
  ·exact ⟨h1.trans k.led,fun _=>h3⟩
  ·exact k.standIn _
 ·exact k.standIn _
open PySem PySem.Spec PyProof.Rows
noncomputable def iV:Value→Int
 | .int z _=>z
 | _=>0
noncomputable def iE (e:Int × Value):Int:=iV e.2
def EI (es:List (Int × Value)):Prop:=∀ e∈es,∃ z tk,e=(hashInt z,Value.int z tk)
theorem EI.elems {prog:Program}{w:World}{es:List (Int × Value)} (h:EI es):ElemsOf (intKind prog w) es:=fun e he=>by
 obtain ⟨z,tk,rfl⟩:=h e he
 exact ⟨⟨z,intKind_is prog w z tk,rfl⟩,rfl⟩
theorem EI.perm {a b:List (Int × Value)} (h:EI a) (p:b.Perm a):EI b:=fun e he=>h e (p.mem_iff.mp he)
inductive StI (bt:Bool) (h:Heap) (a:Addr) (zs:List Int):Prop
 | mk (o:Obj) (es:Array (Int × Value)) (ep:Nat) (t:SetTable) (g:h.get? a=some o) (x:o.ExactSet) (d:o.data=.set es ep t) (k:TOk bt t) (f:t.fits es.size=true) (b:es.size<scanBound) (e:EI es.toList) (p:(es.toList.map iE).Perm zs)
theorem StI.at {bt:Bool}{h h':Heap}{a:Addr}{zs:List Int} (S:StI bt h a zs) (k:∀ o,h.get? a=some o→h'.get? a=some o):StI bt h' a zs:=by
 obtain ⟨o,es,ep,t,g,r⟩:=S
 exact ⟨o,es,ep,t,k o g,‹_›,‹_›,‹_›,‹_›,‹_›,‹_›,‹_›⟩
theorem StI.stored {bt:Bool}{h:Heap}{a:Addr}{o:Obj}{es es':Array (Int × Value)}{ep:Nat}{t t':SetTable}{zs:List Int} (g:h.get? a=some o) (x:o.ExactSet) (d:o.data=.set es ep t)
  (k:TOk bt t') (f:t'.fits es'.size=true) (b:es'.size<scanBound) (e:EI es'.toList) (p:(es'.toList.map iE).Perm zs) :
  (h.update a (Obj.putSet es' t')).get? a=some { o with data:=.set es' (ep+1) t' }∧StI bt (h.update a (Obj.putSet es' t')) a zs:=by
 have hg:(h.update a (Obj.putSet es' t')).get? a=some { o with data:=.set es' (ep+1) t' }:=by
  have:=Heap.get?_update_self (Obj.putSet es' t') g (by rw [putSet_of es' t' d]; rfl)
  rw [putSet_of es' t' d] at this
  exact this
 exact ⟨hg,_,es',ep+1,t',hg,x,rfl,k,f,b,e,p⟩
noncomputable def one (zs:List Int) (z:Int):List Int:=if z∈zs then zs else z::zs
section
variable {prog:Program}{w:World}{A:Around}{E:Value→Shared→Prop}{s:Shared}{bt:Bool}{a:Addr}{zs:List Int}
theorem add_int {z:Int}{tk:Tok}{Q:Bool→Shared→Prop} (S:StI bt s.heap a zs) (room:zs.length+1<scanBound)
  (h:∀ (b:Bool) (h':Heap),Heap.SameBut a s.heap h'→StI bt h' a (one zs z)→Q b { s with heap:=h' }) :
  wpAny (model prog w) A (setAddHashed a (.int z tk) (hashInt z)) Q E s:=by
 obtain ⟨o,es,ep,t,g,x,d,k,f,b,e,p⟩:=S
 have hl:es.size=zs.length:=by rw [← p.length_eq,List.length_map,Array.length_toList]
 unfold setAddHashed setAddHashedIn
 refine wpAny_holding (wpAny_bind (wpAny_setState_of g d f ?_))
 dsimp only
 rw [byScan_of (knd:=intKind prog w) rfl b e.elems,if_pos rfl]
 unfold setAddByScan
 refine wpAny_bind (wpAny_bind (wpAny_rule (wpAny_bind (wpAny_setScan_of (knd:=intKind prog w) (k:=z) (intKind_is prog w z tk) g d f e.elems ?_))))
 cases hr:es.toList.findIdx? (fun q=>(intKind prog w).is z q.2) with
 | some j =>
  obtain ⟨hj,hp,_⟩:=List.findIdx?_eq_some_iff_getElem.mp hr
  have hm:z∈zs:=by
   obtain ⟨z',tk',e1⟩:=e _ (List.getElem_mem hj)
   rw [e1] at hp
   have hz:z'=z:=by simpa [intKind,Value.isInt] using hp
   rw [← hz]
   refine p.mem_iff.mp (List.mem_map.mpr ⟨_,List.getElem_mem hj,?_⟩)
   rw [e1]
   rfl
  refine wpAny_pure (wpAny_pure ?_)
  have:=h false s.heap (Heap.SameBut.refl ..) ⟨o,es,ep,t,g,x,d,k,f,b,e,by rw [one,if_pos hm]; exact p⟩
  cases s
  exact this
 | none =>
  have hm:z∉zs:=fun hz=>by
   obtain ⟨q,hq,e2⟩:=List.mem_map.mp (p.mem_iff.mpr hz)
   have:=List.findIdx?_eq_none_iff.mp hr q hq
   obtain ⟨z',tk',e1⟩:=e q hq
   rw [e1] at this e2
   have hz':z'=z:=e2
   subst hz'
   exact absurd (intKind_is prog w z' tk') (by rw [this]; exact Bool.false_ne_true)
  have p1:=layNew_perm t es (hashInt z) (.int z tk)
  have f1:=layNew_fits t es (hashInt z) (.int z tk)
  have k1:=k.layNew es (hashInt z) (.int z tk)
  dsimp only
  generalize hL:layNew t es (hashInt z) (.int z tk)=L at p1 f1 k1 ⊢
  obtain ⟨es1,t1,wd,gv⟩:=L
  dsimp only at p1 f1 k1 ⊢
  have e1:EI es1.toList:=EI.perm (fun q hq=>by
   rw [Array.toList_push] at hq
   rcases List.mem_append.mp hq with hq | hq
   ·exact e q hq
   ·exact ⟨z,tk,List.mem_singleton.mp hq⟩) p1
  have q1:(es1.toList.map iE).Perm (one zs z):=by
   refine (p1.map iE).trans ?_
   rw [Array.toList_push,List.map_append,one,if_neg hm]
   exact (List.Perm.append_right _ p).trans (List.perm_append_singleton z zs)
  have z1:es1.size=es.size+1:=by rw [← Array.length_toList,p1.length_eq,Array.length_toList,Array.size_push]
  have b1:es1.size<scanBound:=by omega
  have tail:∀ (t2:SetTable) (G:Bool→Sem Unit) (hG:∀ (b:Bool) (s₁:Shared) (Q':Unit→Shared→Prop),Q' () s₁→wpAny (model prog w) A (G b) Q' E s₁),TOk bt t2→t2.fits es1.size=true →
    wpAny (model prog w) A (do
     storeSet a es1 t2
     if (!wd&&t2.tooFull)=true then do
       G (relayAll t2 es1 (SetTable.grown es1.size)).2.2
       storeSet a (relayAll t2 es1 (SetTable.grown es1.size)).1 (relayAll t2 es1 (SetTable.grown es1.size)).2.1
       pure (some true)
      else pure (some true)) (fun r s'=>wpAny (model prog w) A (match r with | some added=>pure added | none=>setAddHashedIn a (.int z tk) (hashInt z) 99999) Q E s') E s:=by
   intro t2 G hG k2 f2
   refine wpAny_bind (wpAny_storeSet_of g d ?_ (fits_of_scanBound b1))
   obtain ⟨g3,S3⟩:=StI.stored g x d k2 f2 b1 e1 q1
   split
   ·have p4:=relayAll_perm t2 es1 (SetTable.grown es1.size)
    have f4:=relayAll_fits t2 es1 (SetTable.grown es1.size)
    have k4:=k2.relayAll es1 (SetTable.grown es1.size)
    generalize relayAll t2 es1 (SetTable.grown es1.size)=M at p4 f4 k4 ⊢
    obtain ⟨es2,t3,gv2⟩:=M
    dsimp only at p4 f4 k4 ⊢
    have z4:es2.size=es1.size:=by rw [← Array.length_toList,p4.length_eq,Array.length_toList]
    have b4:es2.size<scanBound:=by omega
    refine wpAny_bind (hG _ _ _ (wpAny_bind (wpAny_storeSet_of g3 rfl ?_ (fits_of_scanBound b4))))
    refine wpAny_pure (wpAny_pure (h true _ ((Heap.SameBut.update s.heap a _).trans (Heap.SameBut.update _ a _)) ?_))
    exact (StI.stored g3 x rfl k4 f4 b4 (e1.perm p4) ((p4.map iE).trans q1)).2
   ·exact wpAny_pure (wpAny_pure (h true _ (Heap.SameBut.update s.heap a _) S3))
  have hgw:∀ (b:Bool) (s₁:Shared) (Q':Unit→Shared→Prop),Q' () s₁→wpAny (model prog w) A (match b with | true=>rule "set.scan.the-table-gave-way" | false=>pure ()) Q' E s₁ :=
   fun b s₁ Q' hq=>by cases b <;> first | exact wpAny_pure hq | exact wpAny_rule hq
  refine wpAny_bind (hgw _ _ _ ?_)
  split
  ·refine wpAny_bind ?_
   rw [hashByValue_scannable 8 rfl]
   refine wpAny_pure ?_
   exact tail _ _ hgw k1 f1
  ·refine wpAny_bind (wpAny_pure ?_)
   exact tail _ _ hgw k1 f1
end
open PySem PySem.Spec PyProof.Rows
def IsSI (h:Heap) (it S:Addr) (f:Value) (i n ep:Nat):Prop:=∃ o,h.get? it=some o∧o.cls=.type "set_iterator"∧o.data=.fields #[f,.int (i:Int) 0,.ref S,.int (n:Int) 0,.int (ep:Int) 0]
section
variable {prog:Program}{w:World}{A:Around}{E:Value→Shared→Prop}{s:Shared}{it S:Addr}{f:Value}{i n ep:Nat}
theorem IsSI.ty (h:IsSI s.heap it S f i n ep):s.TypeIs (.ref it) "set_iterator":=let ⟨o,g,c,_⟩:=h; ⟨o,g,c⟩
theorem IsSI.at {h h':Heap} (x:IsSI h it S f i n ep) (e:∀ o,h.get? it=some o→h'.get? it=some o):IsSI h' it S f i n ep:=let ⟨o,g,r⟩:=x; ⟨o,e _ g,r⟩
end
open PySem PySem.Spec PyProof.Rows
section
variable {prog:Program}{w:World}{A:Around}{E:Value→Shared→Prop}{s:Shared}{S I T:Addr}{ep:Nat}{es:Array (Int × Value)}{t:SetTable}{o:Obj}{vs:List Value}
inductive SIt (prog:Program) (w:World) (A:Around) (h0:Heap) (S I:Addr) (h':Heap) (n:Nat) (vs:List Value):Prop
 | mk (fp:List Addr) (St:Nat→Heap→Prop) (vals:List Value) (p:vals.Perm vs) (W:Walks prog w A I fp [I] n (fun i v=>vals[i]?=some v) St) (st:St 0 h') (f:∀ b∈fp,b=S∨h0.objs.size≤b) (i:h0.objs.size≤I)
end
open PySem PySem.Spec PyProof.Rows
section
variable {X:Cx}
theorem strs_of:∀ {ss:List Str}{its:List Value},Vals (ss.map V.str) its→∃ l:List (Str × Tok),its=strValues l∧l.map (·.1)=ss
 | [],its,h=>by cases h; exact ⟨[],rfl,rfl⟩
 | z::ss,its,h=>by
  obtain ⟨u,r,rfl,ru,rr⟩:=h.cinv
  obtain ⟨t,rfl⟩:=ru
  obtain ⟨l,rfl,e⟩:=strs_of rr
  exact ⟨(z,t)::l,rfl,by rw [List.map_cons,e]⟩
theorem vals_strs:∀ l:List (Str × Tok),Vals ((l.map (·.1)).map V.str) (strValues l)
 | []=>.nil
 | p::l=>.cons ⟨p.2,rfl⟩ (vals_strs l)
noncomputable def rJoin:V→List V→Hp→VK→Prop:=fun x vs H Q=>∃ z l ss,x=.str z∧vs=[.ref l]∧H l=some (.lst (ss.map V.str))∧JoinOk z ss=true∧Q (.str (Txt.join z ss)) H
theorem mt_join:MtM X "str.join" rJoin:=by
 intro pins s σ H x vs v us Q I rx rv h
 obtain ⟨z,l,ss,rfl,rfl,hH,hok,q⟩:=h
 obtain ⟨t,rfl⟩:=rx
 obtain ⟨u,rfl,ru⟩:=rv.one
 cases ru
 obtain ⟨_,its,n,r,_,e⟩:=I.lstM hH
 obtain ⟨ps,rfl,hp⟩:=strs_of r
 exact SC.join ⟨_,e,rfl,_,rfl⟩ hp hok fun t' k=>⟨.str _,H,I.tok k,⟨_,rfl⟩,q⟩
noncomputable def rFind:V→List V→Hp→VK→Prop:=fun x vs H Q=>∃ z y,x=.str z∧vs=[.str y]∧Q (.int (Txt.find z y)) H
theorem mt_find:MtM X "str.find" rFind:=by
 intro pins s σ H x vs v us Q I rx rv h
 obtain ⟨z,y,rfl,rfl,q⟩:=h
 obtain ⟨t,rfl⟩:=rx
 obtain ⟨u,rfl,ru⟩:=rv.one
 obtain ⟨t',rfl⟩:=ru
 exact call_gives PySem.F.slot_str_find (typeIs_str _ _ _) PySem.F.entry_str_find (PySem.F.args_str_find_2 _ _) (gives_str_find z y t t') ⟨.int _,H,I.tok _,⟨_,rfl⟩,q⟩
open Builtin Builtin.Str in
noncomputable def rSplit:V→List V→Hp→VK→Prop:=fun x vs H Q=>∃ z y,x=.str z∧vs=[.str y]∧(y.length == 0)=false∧z.length≤sizeLine∧(partsBetween z (occurrences z y 0 z.length (z.length+1)) y.length).length≤sizeLine∧∀ l,H l=none→Q (.ref l) (upd H l (.lst ((Txt.split z y).map V.str)))
open Builtin Builtin.Str in
theorem mt_split:MtM X "str.split" rSplit:=by
 intro pins s σ H x vs v us Q I rx rv h
 obtain ⟨x,y,rfl,rfl,hy,hsz,hsz2,q⟩:=h
 obtain ⟨t,rfl⟩:=rx
 obtain ⟨u,rfl,ru⟩:=rv.one
 obtain ⟨u,rfl⟩:=ru
 have q:=q _ (I.hok.fresh (Nat.le_refl s.heap.objs.size))
 have one:∀ z:Str,((1:Nat)≤sizeLine):=fun _=>by rw [sizeLine_eq]; decide
 have fin:∀ (l:List (Str × Tok)) (k:Nat),l.length≤sizeLine→l.map (·.1)=Txt.split x y→EP X pins σ Q (.ref s.heap.objs.size) { s with heap:=s.heap.push { cls:=.type "list",data:=.seq (strValues l).toArray 0 },toks:=k }:=fun l k hz e=>by
  rw [← e] at q
  refine ⟨.ref s.heap.objs.size,_,I.laid (t':=k) (fun b o hb=>Heap.get?_push_of_some _ hb) (Nat.le_refl _) (show ObjOk X.prog X.w _ _ _ (.lst ((l.map (·.1)).map V.str)) from ⟨by rw [List.length_map,List.length_map]; exact hz,_,_,vals_strs l,Heap.get?_push_size _ rfl⟩),rfl,q⟩
 cases h1:(decide (x.length<y.length)||decide (strKind x<strKind y))
 ·cases hf:(occurrences x y 0 x.length (x.length+1)).isEmpty
  ·refine call_meets PySem.F.slot_str_split (typeIs_str _ _ _) PySem.F.entry_str_split (PySem.F.args_str_split_2 _ _) (meets_str_split_sep x y t u h1 hy hf hsz hsz2) ?_
   show wants _ X.xe _ { s with toks:=_,heap:=s.heap.push { cls:=.type "list",data:=.seq (strsFrom s.toks (partsBetween x (occurrences x y 0 x.length (x.length+1)) y.length)).toArray } }
   rw [strsFrom_eq]
   have e:(numbered s.toks (partsBetween x (occurrences x y 0 x.length (x.length+1)) y.length)).map (·.1)=Txt.split x y:=(numbered_texts _ _).trans ((if_neg (ne_true_of_eq_false h1)).trans (if_neg (ne_true_of_eq_false hf))).symm
   refine fin _ _ ?_ e
   have:=congrArg List.length (numbered_texts s.toks (partsBetween x (occurrences x y 0 x.length (x.length+1)) y.length))
   rw [List.length_map] at this
   omega
  ·exact call_meets PySem.F.slot_str_split (typeIs_str _ _ _) PySem.F.entry_str_split (PySem.F.args_str_split_2 _ _) (meets_str_split_not_found x y t u h1 hy hf)
    (fin [(x,t)] s.toks (one x) ((if_neg (ne_true_of_eq_false h1)).trans (if_pos hf)).symm)
 ·exact call_meets PySem.F.slot_str_split (typeIs_str _ _ _) PySem.F.entry_str_split (PySem.F.args_str_split_2 _ _) (meets_str_split_cannot_occur x y t u h1)
   (fin [(x,t)] s.toks (one x) (if_pos h1).symm)
noncomputable def tFmt (ta:TE):TE:=fun σ H Q=>ta σ H fun x H1=>(∃ i,x=.int i∧i.natAbs.log2<1920∧Q (.str (toString i)) H1)∨∃ z,x=.str z∧z.length≤sizeLine∧Q (.str z) H1
theorem pe_fmt {e:Expr}{ta:TE}{pos:Pos} (ha:PE X e ta):PE X (.FormattedValue e (-1) none pos) (tFmt ta):=by
 intro pins s σ H Q I h
 refine wpAny_FormattedValue_plain (thn (ha pins s σ H _ I h) fun v s1 ⟨x,H1,I1,r1,q1⟩=>?_)
 rcases q1 with ⟨i,rfl,hl,q⟩ | ⟨z,rfl,hz,q⟩
 ·obtain ⟨t,rfl⟩:=r1
  exact wpAny_formatField_int hl ⟨.str _,H1,I1.tok _,⟨_,rfl⟩,q⟩
 ·obtain ⟨t,rfl⟩:=r1
  exact wpAny_formatField_str ⟨.str _,H1,I1,⟨_,rfl⟩,q⟩ ⟨.str _,H1,I1.tok _,⟨_,rfl⟩,q⟩ hz
inductive PEs (X:Cx):List Expr→List TE→Prop
 | nil:PEs X [] []
 | cons {e es t ts}:PE X e t→PEs X es ts→PEs X (e::es) (t::ts)
noncomputable def tJS:List TE→Str→TE
 | [],acc=>fun _ H Q=>acc.length≤sizeLine∧Q (.str acc) H
 | t::ts,acc=>fun σ H Q=>t σ H fun x H1=>∃ y,x=.str y∧(acc++y).length≤sizeLine∧tJS ts (acc++y) σ H1 Q
theorem joins_of {pins:List (Addr × Obj)}{σ:St}{Q:VK}:∀ {es:List Expr}{ts:List TE},PEs X es ts→∀ (acc:Str) (H:Hp) (s:Shared),Inv X pins σ H s→tJS ts acc σ H Q →
  Joins (model X.prog X.w) X.A X.xe (evalEach es X.env) acc (fun out s₁=>out.length≤sizeLine∧EP X pins σ Q (.str out s₁.toks) { s₁ with toks:=s₁.toks+1 }) s
 | _,_,.nil,acc,H,s,I,h=>⟨h.1,.str acc,H,I.tok _,⟨_,rfl⟩,h.2⟩
 | e::es,t::ts,.cons he hes,acc,H,s,I,h=>by
  show wpAny _ _ (eval e X.env) _ _ s
  refine thn (he pins s σ H _ I h) fun v s1 ⟨x,H1,I1,r1,y,hx,hl,q⟩=>?_
  subst hx
  obtain ⟨t,rfl⟩:=r1
  exact ⟨y,t,rfl,hl,joins_of hes _ H1 s1 I1 q⟩
theorem pe_joined {e1 e2:Expr}{es:List Expr}{ts:List TE}{pos:Pos} (h:PEs X (e1::e2::es) ts):PE X (.JoinedStr (e1::e2::es) pos) (tJS ts Str.empty):=by
 intro pins s σ H Q I q
 exact wpAny_JoinedStr (joins_of h _ H s I q)
end
open PySem PySem.Spec PyProof.Rows
section
variable {X:Cx}
noncomputable def rSlS:V→Option Int→Option Int→Hp→VK→Prop:=fun x lo hi H Q=>∃ z,x=.str z∧z.length≤sizeLine∧Q (.str (Txt.slice z lo hi)) H
theorem part_of {v:Value}{o:Option Int} (h:IsPart v o):∃ p:Option (Int × Tok),v=partValue p∧p.map (·.1)=o:=by
 cases h with
 | none=>exact ⟨none,rfl,rfl⟩
 | int i t=>exact ⟨some (i,t),rfl,rfl⟩
theorem sl_str:SlR X rSlS:=by
 intro pins s σ H x v vl vu lo hi sl Q I rx hs pl pu h
 obtain ⟨z,rfl,hz,q⟩:=h
 obtain ⟨t,rfl⟩:=rx
 obtain ⟨l,rfl,rfl⟩:=part_of pl
 obtain ⟨u,rfl,rfl⟩:=part_of pu
 refine ⟨"str",_,PySem.F.slot_str_getitem.lookup,typeIs_str _ _ _,wpAny_getItem_str_slice (l:=l) (u:=u) (st:=none) hs rfl ?_⟩
 exact post_val_or_str ⟨Nat.le_trans (Txt.slice_le z _ _) hz,fun t' k=>⟨.str _,H,I.tok k,⟨_,rfl⟩,q⟩⟩
theorem call_intS:CallR X (.type "int") (fun xs H Q=>∃ z n,xs=[.str z]∧PySem.intText? z=some n∧z.length≤640∧Q (.int n) H):=by
 intro pins s σ H xs us Q I r h
 obtain ⟨z,n,rfl,hn,hl,q⟩:=h
 obtain ⟨u,rfl,t,rfl⟩:=vals1 r
 exact W.KIN.call_text hn hl ⟨.int n,H,I.tok _,⟨_,rfl⟩,q⟩
end
open PySem PySem.Spec PyProof.Rows
def Trc (h:Heap) (e T:Addr) (cls:Value):Prop:=∃ oe vs oT ts,h.get? e=some oe∧oe.cls=cls∧oe.data=.fields vs∧vs[1]?=some (.ref T)∧T≠e∧h.get? T=some oT∧oT.data=.fields ts∧ts[3]?=some .none
structure Lft (l:List Env) (wr:List Addr) (e:Addr) (cls:Value) (h h':Heap):Prop where
 keep:∀ b o,h.get? b=some o→b∉wr→b∉frs l→h'.get? b=some o
 slot:∀ b o,h.get? b=some o→b∉wr→∃ sl,h'.get? b=some { o with slots:=sl }
 there:∀ b o,h.get? b=some o→∃ o',h'.get? b=some o'
 tr:∃ T,h.objs.size≤T∧Trc h' e T cls
section
variable {M:Model}{A:Around}{E:Value→Shared→Prop}{s:Shared}{base:Heap}{env:Env}{outer:List Env}{L e:Addr}{oe:Obj}{vs:Array Value}{Q:Unit→Shared→Prop}
theorem note_entry {h₁:Heap}{pl:List Value}{head:Value}{wr:List Addr}{h₀:Heap} (hpl:IsPlace pl) (hs:Heap.SlotsOnly (frs (env::outer)) h₀ h₁) (he:h₁.get? e=some oe) (hd:oe.data=.fields vs) (hsz:1<vs.size) (hew:e∈wr)
  (hQ:∀ h',Lft (env::outer) wr e oe.cls h₀ h'→Q () { s with heap:=h' }) :
  wpAny M A (EntryCells.newEntry head (.ref L) .none (rawInt L) .none pl >>= fun b=>setField (.ref e) 1 b) (fun _ s'=>wpAny M A (setFlight (.ref e) none) Q E s') E { s with heap:=h₁ }:=by
 obtain ⟨ts,hts⟩:∃ ts,([head,.ref L,.none,rawInt L,.none]++(if pl.isEmpty then List.replicate 6 Value.none else pl)).toArray=ts:=⟨_,rfl⟩
 have t3:3<ts.size:=by rw [← hts,List.size_toArray,List.length_append]; simp only [List.length_cons,List.length_nil]; omega
 unfold EntryCells.newEntry newFields
 refine wpAny_bind (wpAny_newObj_type ?_ (hpl.sizeOk5 _ _ _ _ _))
 rw [hts]
 have e2:=Heap.get?_push_of_some (h:=h₁) { cls:=.type "traceback",dict:=none,data:=.fields ts } he
 refine wpAny_setField e2 hd hsz ?_
 have ne:h₁.objs.size≠e:=Nat.ne_of_gt (Heap.lt_size he)
 have d3:=Obj.data_mapFields hd (·.setIfInBounds 1 (Value.ref h₁.objs.size))
 have e3:=Heap.get?_update_self (Obj.mapFields (·.setIfInBounds 1 (Value.ref h₁.objs.size))) e2 (Obj.isFreed_of_fields d3)
 have T3:=(Heap.get?_update_other (h₁.push { cls:=.type "traceback",dict:=none,data:=.fields ts }) (Obj.mapFields (·.setIfInBounds 1 (Value.ref h₁.objs.size))) (Ne.symm ne)).trans (Heap.get?_push_size h₁ rfl)
 refine wpAny_setFlight_none e3 d3 (by simp [hsz]) T3 rfl t3 (hQ _ ?_)
 have keep:∀ b o,b≠e→h₁.get? b=some o→(((h₁.push { cls:=.type "traceback",dict:=none,data:=.fields ts }).update e (Obj.mapFields (·.setIfInBounds 1 (Value.ref h₁.objs.size)))).update h₁.objs.size (Obj.mapFields (·.setIfInBounds 3 .none))).get? b=some o:=fun b o hbe hb=>by
  rw [Heap.get?_update_other _ _ (Nat.ne_of_gt (Heap.lt_size hb)),Heap.get?_update_other _ _ (Ne.symm hbe)]
  exact Heap.get?_push_of_some _ hb
 have eE:=(Heap.get?_update_other ((h₁.push { cls:=.type "traceback",dict:=none,data:=.fields ts }).update e (Obj.mapFields (·.setIfInBounds 1 (Value.ref h₁.objs.size)))) (Obj.mapFields (·.setIfInBounds 3 .none)) ne).trans e3
 have ew:∀ b:Addr,b∉wr→b≠e:=fun b hb z=>hb (z▸hew)
 refine ⟨fun b o hb n1 n2=>keep b o (ew b n1) ((hs.2.1 b n2).trans hb),fun b o hb n1=>?_,fun b o hb=>?_,h₁.objs.size,Nat.le_of_eq hs.1.symm,_,_,_,_,eE,Obj.cls_mapFields _ _,d3,by simp [hsz],ne,Heap.get?_update_self _ T3 (Obj.isFreed_of_fields (Obj.data_mapFields rfl _)),Obj.data_mapFields rfl _,by simp [t3]⟩
 ·obtain ⟨sl,q⟩:=hs.2.2 b o hb
  exact ⟨sl,keep b _ (ew b n1) q⟩
 ·obtain ⟨sl,q⟩:=hs.2.2 b o hb
  by_cases z:b=e
  ·exact ⟨_,by rw [z]; exact eE⟩
  ·exact ⟨_,keep b _ z q⟩
theorem note_first (hfr:A.frames=some (env::outer)) (hl:s.heap.FunFrames base (env::outer)) (hf:env.frame=some L) (he:s.heap.get? e=some oe) (hd:oe.data=.fields vs) (h1:vs[1]?=some .none)
  (hQ:∀ h',Lft (env::outer) [e] e oe.cls s.heap h'→Q () { s with heap:=h' }):wpAny M A (noteFrame (.ref e) env) (fun _ s'=>wpAny M A (setFlight (.ref e) none) Q E s') E s:=by
 have nf:e∉frs (env::outer):=fun hm=>by
  obtain ⟨_,o,ho,hn⟩:=hl.mem hm
  rw [he] at ho; cases ho; exact hn vs hd
 unfold noteFrame
 simp only [hf]
 refine wpAny_bind (wpAny_field he hd h1 ?_)
 rw [if_neg (by decide)]
 refine wpAny_bind (wpAny_frameOf_fun hfr hl hf fun h₁ hs=>wpAny_bind (wpAny_entryPlaceOf fun pl hpl=>?_))
 exact note_entry hpl hs ((hs.2.1 e nf).trans he) hd (Array.getElem?_eq_some_iff.mp h1).1 (by simp) hQ
theorem note_next {T:Addr}{cls:Value} (hfr:A.frames=some (env::outer)) (hl:s.heap.FunFrames base (env::outer)) (hf:env.frame=some L) (ht:Trc s.heap e T cls)
  (hQ:∀ h',Lft (env::outer) [e,T] e cls s.heap h'→Q () { s with heap:=h' }):wpAny M A (noteFrame (.ref e) env) (fun _ s'=>wpAny M A (setFlight (.ref e) none) Q E s') E s:=by
 obtain ⟨oe,vs,oT,ts,he,rfl,hd,h1,nT,hT,hdT,h3⟩:=ht
 have t3:=(Array.getElem?_eq_some_iff.mp h3).1
 unfold noteFrame
 simp only [hf]
 refine wpAny_bind (wpAny_field he hd h1 ?_)
 rw [if_pos (show (Value.ref T != Value.none)=true from by simp)]
 refine wpAny_bind (wpAny_field hT hdT h3 ?_)
 rw [if_neg (show ¬ ((Value.none == rawInt L)=true) from by simp [rawInt])]
 refine wpAny_bind (wpAny_setField hT hdT t3 ?_)
 obtain ⟨h0,hh0⟩:∃ h0,s.heap.update T (Obj.mapFields (·.setIfInBounds 3 Value.none))=h0:=⟨_,rfl⟩
 have oth:∀ b,b≠T→h0.get? b=s.heap.get? b:=fun b hb=>by rw [← hh0]; exact Heap.get?_update_other _ _ (Ne.symm hb)
 have sz:h0.objs.size=s.heap.objs.size:=by rw [← hh0]; exact Heap.size_update _ _ _
 have atT:∃ o',h0.get? T=some o':=⟨_,by rw [← hh0]; exact Heap.get?_update_self _ hT (Obj.isFreed_of_fields (Obj.data_mapFields hdT _))⟩
 rw [hh0]
 have he0:h0.get? e=some oe:=(oth e (Ne.symm nT)).trans he
 have hl0:h0.FunFrames base (env::outer):=hl.of_keeps fun b o hb hnf=>⟨o,(oth b fun z=>by rw [z,hT] at hb; cases hb; exact hnf ts hdT).trans hb,rfl⟩
 have nf:e∉frs (env::outer):=fun hm=>by
  obtain ⟨_,o,ho,hn⟩:=hl0.mem hm
  rw [he0] at ho; cases ho; exact hn vs hd
 refine wpAny_bind (wpAny_frameOf_fun (s:={ s with heap:=h0 }) hfr hl0 hf fun h₁ hs=>wpAny_bind (wpAny_entryPlaceOf fun pl hpl=>?_))
 refine note_entry (s:=s) hpl hs ((hs.2.1 e nf).trans he0) hd (Array.getElem?_eq_some_iff.mp h1).1 (wr:=[e,T]) (by simp) fun h' lf=>hQ h' ?_
 have nT':∀ b:Addr,b∉[e,T]→b≠T:=fun b hb z=>hb (by rw [z]; simp)
 refine ⟨fun b o hb n1 n2=>lf.keep b o ((oth b (nT' b n1)).trans hb) n1 n2,fun b o hb n1=>lf.slot b o ((oth b (nT' b n1)).trans hb) n1,fun b o hb=>?_,by rw [← sz]; exact lf.tr⟩
 by_cases z:b=T
 ·obtain ⟨o',q⟩:=atT
  exact lf.there b o' (by rw [z]; exact q)
 ·exact lf.there b o ((oth b z).trans hb)
end
open PySem PySem.Spec PyProof.Rows
inductive CX1 (P:Program) (w:World) (outer:List Env) (H:Hp) (s:Shared) (E:XK) (ev:Value) (s':Shared):Prop
 | mk (e T:Addr) (C:Value) (H':Hp) (eq:ev=.ref e) (tr:Trc s'.heap e T C) (ne:s.heap.get? e=none) (nT:s.heap.get? T=none) (os:s'.os=s.os) (bare:AllBare s'.gens) (un:Un (frs outer) [] H H' s.heap s'.heap) (hok:HOk P w H' s'.heap) (he:H' e=none) (hT:H' T=none) (w:E C none H')
theorem ObjOk.here {P:Program}{w:World}{H:Hp}{h:Heap}{a:Addr}{o:HO} (x:ObjOk P w H h a o):∃ ob,h.get? a=some ob:=by
 cases o with
 | lst xs=>obtain ⟨_,_,_,_,e⟩:=x; exact ⟨_,e⟩
 | tup xs=>obtain ⟨_,_,_,ob,e,_⟩:=x; exact ⟨ob,e⟩
 | dK kvs=>obtain ⟨_,_,_,_,ob,_,_,e,_⟩:=x; exact ⟨ob,e⟩
 | dT kvs=>obtain ⟨_,_,_,_,ob,_,_,e,_⟩:=x; exact ⟨ob,e⟩
 | set S n=>obtain ⟨ob,_,_,_,e,_⟩:=x; exact ⟨ob,e⟩
 | ins C dx fs=>obtain ⟨_,_,_,e,_⟩:=x; exact ⟨_,e⟩
 | own y=>exact x
 | xd fs=>obtain ⟨_,⟨ob,_,_,e,_⟩,_⟩:=x; exact ⟨ob,e⟩
 | rng lo hi=>obtain ⟨_,_,_,e⟩:=x; exact ⟨_,e⟩
 | frz ob u=>exact ⟨ob,x.1⟩
 | tbl ps=>exact ⟨_,x⟩
 | met f y=>exact ⟨_,x⟩
 | ext φ=>exact x.2.1
section
variable {X:Cx}{pins:List (Addr × Obj)}{σ:St}{H:Hp}{s:Shared}{E:XK}{e T:Addr}{C:Value}{wr:List Addr}{h':Heap}
structure Own1 (X:Cx) (E:XK):Prop where
 xe:X.xe=fun e s'=>wpAny (model X.prog X.w) X.A (leaving X.env e) (fun _ s''=>CX1 X.prog X.w X.outer X.H₀ X.s₀ E e s'') (fun e' s''=>CX1 X.prog X.w X.outer X.H₀ X.s₀ E e' s'') s'
 stk:X.stack=X.env::X.outer
 fr:X.env.frame=some X.env.locals
 ex:X.ex=[]
theorem frs_stack (o:Own1 X E):frs X.stack=X.env.locals::X.fs:=by
 rw [o.stk]
 show List.filterMap (·.frame) (X.env::X.outer)=_
 rw [List.filterMap_cons,o.fr]
 rfl
theorem hok_left (I:Inv X pins σ H s) (lf:Lft X.stack wr e C s.heap h') (hw:∀ b∈wr,H b=none):HOk X.prog X.w H h':=fun a o q=>(I.hok a o q).stay (fun b u hb r=>by
 have hs:∃ z,H b=some z:=by
  rcases hb with rfl | hb
  ·exact ⟨o,q⟩
  ·exact ⟨_,hb⟩
 obtain ⟨z,hz⟩:=hs
 refine lf.keep b u r (fun m=>?_) fun m=>?_
 ·rw [hw b m] at hz; cases hz
 ·rw [I.stkFree b m] at hz; cases hz) (fun _ r=>r) fun _ _ r=>r
theorem cx_end (o:Own1 X E) (I:Inv X pins σ H s) (lf:Lft X.stack wr e C s.heap h') (hw:∀ b∈wr,X.s₀.heap.get? b=none∧H b=none) (he:e∈wr) (hE:E C none H):CX1 X.prog X.w X.outer X.H₀ X.s₀ E (.ref e) { s with heap:=h' }:=by
 obtain ⟨T,hT,tr⟩:=lf.tr
 have fr:=frs_stack o
 have ex:∀ b,b∉X.ex:=fun b hb=>by rw [o.ex] at hb; cases hb
 have n0:∀ b ob,X.s₀.heap.get? b=some ob→b∉wr:=fun b ob q m=>by rw [(hw b m).1] at q; cases q
 have nL:∀ b ob,X.s₀.heap.get? b=some ob→b≠X.env.locals:=fun b ob q=>Nat.ne_of_lt (Nat.lt_of_lt_of_le (Heap.lt_size q) I.ok.above)
 have T0:X.s₀.heap.get? T=none:=by
  cases q:X.s₀.heap.get? T with
  | none=>rfl
  | some ob =>
   obtain ⟨o',q'⟩:=I.base.there T ob q (ex T)
   exact absurd (Heap.lt_size q') (Nat.not_lt.mpr hT)
 refine ⟨e,T,C,H,rfl,tr,(hw e he).1,T0,I.os,I.bare,⟨fun b ob q n hb _=>?_,fun b ob q n hb _=>?_,fun b ob q n _=>I.base.free b ob q n (ex b),fun b ob q _=>?_,I.base.tups,I.base.frzs,I.base.tbls⟩,hok_left I lf fun b m=>(hw b m).2,(hw e he).2,I.hok.fresh hT,hE⟩
 ·refine lf.keep b ob (I.base.keep b ob q n hb (ex b)) (n0 b ob q) ?_
  rw [fr]
  exact fun m=>(List.mem_cons.mp m).elim (nL b ob q) hb
 ·obtain ⟨sl,q1⟩:=I.base.slot b ob q n hb (ex b)
  obtain ⟨sl',q2⟩:=lf.slot b _ q1 (n0 b ob q)
  exact ⟨sl',q2⟩
 ·obtain ⟨o',q1⟩:=I.base.there b ob q (ex b)
  exact lf.there b o' q1
theorem own_passes (o:Own1 X E):Passes (CX1 X.prog X.w) X E:=by
 intro pins σ H s ev s' I h
 obtain ⟨e,T,C,H',rfl,tr,ne,nT,os,bare,un,hok,he,hT,hE⟩:=h
 have I':Inv X pins σ H' s':=I.call' os un hok bare fun b z=>absurd z (by simp)
 rw [o.xe]
 unfold leaving
 have z0:∀ b,s.heap.get? b=none→X.s₀.heap.get? b=none:=fun b hb=>by
  cases q:X.s₀.heap.get? b with
  | none=>rfl
  | some ob =>
   obtain ⟨o',q'⟩:=I.base.there b ob q (by rw [o.ex]; simp)
   rw [hb] at q'; cases q'
 have fl:=I'.stack
 have fr:=I'.ok.frames
 rw [o.stk] at fl fr
 refine wpAny_bind (note_next fr fl o.fr tr fun h' lf=>cx_end o I' (by rw [o.stk]; exact lf) (fun b hb=>?_) (by simp) hE)
 simp only [List.mem_cons,List.not_mem_nil,or_false] at hb
 rcases hb with rfl | rfl
 ·exact ⟨z0 _ ne,he⟩
 ·exact ⟨z0 _ nT,hT⟩
def PassNew (X:Cx) (E:XK):Prop:=∀ (pins:List (Addr × Obj)) (σ:St) (H:Hp) (s:Shared) (h':Heap) (e C:Addr) (vs:List Value),Inv X pins σ H s→Heap.MadeExcOf s.heap h' e (.ref C) vs→E (.ref C) none H→X.xe (.ref e) { s with heap:=h' }
theorem own_new (o:Own1 X E):PassNew X E:=by
 intro pins σ H s h' e C vs I mk hE
 have I':Inv X pins σ H { s with heap:=h' }:=I.kept (t':=s.toks) mk.keeps
 obtain ⟨t,he,_,_⟩:=mk.there
 have e0:X.s₀.heap.get? e=none:=by
  cases q:X.s₀.heap.get? e with
  | none=>rfl
  | some ob =>
   obtain ⟨o',q'⟩:=I.base.there e ob q (by rw [o.ex]; simp)
   rw [mk.new] at q'; cases q'
 have hH:H e=none:=by
  cases q:H e with
  | none=>rfl
  | some u =>
   obtain ⟨o',q'⟩:=(I.hok e u q).here
   rw [mk.new] at q'; cases q'
 have fl:=I'.stack
 have fr:=I'.ok.frames
 rw [o.stk] at fl fr
 rw [o.xe]
 unfold leaving
 refine wpAny_bind (note_first (s:={ s with heap:=h' }) fr fl o.fr he rfl rfl fun h'' lf=>cx_end o I' (by rw [o.stk]; exact lf) (fun b hb=>?_) (by simp) hE)
 simp only [List.mem_cons,List.not_mem_nil,or_false] at hb
 subst hb
 exact ⟨e0,hH⟩
end
open PySem PySem.Spec PyProof.Rows
noncomputable abbrev VEs:List Value:=[.type "ValueError",.type "Exception",.type "BaseException",.type "object"]
def ExcK (K:W.Frag) (C:Addr):Prop:=W.excIn K C VEs "ValueError.__new__"=true
theorem exc_at {K:W.Frag}{C:Addr} (h:ExcK K C):∃ bm N nm q bs hdct sn sub ab col dd k0 k1 k2 k3 k5,K.lookup C=some (excClassObj nm q C N bs bm hdct sn sub ab col dd k0 k1 k2 k3 k5 "ValueError.__new__")∧W.tailIn K VEs bm=true∧W.nsOkIn K N=true∧W.nsIn K N "__init__"=some none:=by
 unfold ExcK W.excIn at h
 split at h
 ·rename_i dd cd sl ho
  split at h
  ·rename_i C' bm k0 k1 k2 k3 n k5 hm hs
   simp only [Bool.and_eq_true,beq_iff_eq,Bool.not_eq_true'] at h
   obtain ⟨⟨⟨⟨⟨rfl,rfl⟩,hdel⟩,ht⟩,hok⟩,hni⟩:=h
   obtain ⟨nm,bs,mro,ns,qn,hd,sn,sub,ab,col,del⟩:=cd
   dsimp only at hm hdel hok hni
   subst hm hdel
   obtain ⟨l⟩:=sl
   dsimp only at hs
   subst hs
   exact ⟨bm,ns,nm,qn,bs,hd,sn,sub,ab,col,dd,k0,k1,k2,k3,k5,ho,ht,hok,hni⟩
  ·cases h
 ·cases h
section
variable {X:Cx}{E:XK}{x:Str}{C:Addr}{txt:Str}{j:Nat}{np p2 cpos pos:Pos}
noncomputable def tRaise (C:Addr) (E:XK):TS:=fun _ _ H=>E (.ref C) none H
theorem ps_raise (hc:X.calm=true) (hg:Gl X x) (hm:X.mg x=some (.ref C)) (hk:ExcK X.K C) (pn:PassNew X E) (hd:(x == ("__debug__":Str))=false):PS X (.Raise (some (.Call (.Name x np) [.Constant (.str txt) j p2] [] cpos)) none pos) (tRaise C E):=by
 intro pins s σ H D I h
 obtain ⟨bm,N,nm,q,bs,hdct,sn,sub,ab,col,dd,k0,k1,k2,k3,k5,lk,ht,hok,hni⟩:=exc_at hk
 have T:=W.tail_of_in I.kIn ht
 refine wpAny_Raise_call_subT (C:=C) (nm:=nm) (q:=q) (N:=N) (bs:=bs) (bm:=bm) (hdct:=hdct) (sn:=sn) (sub:=sub) (ab:=ab) (col:=col) (dd:=dd) (k0:=k0) (k1:=k1) (k2:=k2) (k3:=k3) (k5:=k5)
  PySem.F.excBase_ValueError (mN:=s.heap.nsMap N) (T.hasType (by decide)) (I.ok.hd hc) rfl (W.nsMap_none_of_in I.kIn hok hni) (ld_glob I hg hm ⟨rfl,?_⟩ hd)
 refine Calls.evalArgs_plain (Calls.spliced_cons (Calls.Constant_str (pos:=p2) (k:=j) (Calls.spliced_nil ?_)))
 have I2:Inv X pins σ H { s with toks:=s.toks+1 }:=I.tok _
 exact ⟨rfl,by show 1≤sizeLine; decide,I2.kIn _ _ lk,.of_isNs (W.isNs_of_in I2.kIn hok),W.tail_of_in I2.kIn ht,fun h' e mk=>pn pins σ H _ h' e C _ I2 mk h⟩
end
open PySem PySem.Spec PyProof.Rows
noncomputable def cxLam (P:Program) (w:World) (K:W.Frag) (mg:Str→Option Value) (base:Heap) (N:List Str) (qual:Str) (scope:Scope) (f:Addr) (cd:Value) (cl:List (Str × Addr)) (A:Around) (outer:List Env) (s:Shared) (H:Hp) (E:XK):Cx where
 prog:=P
 w:=w
 K:=K
 mg:=mg
 base:=base
 A:=A.deeper (W.envX qual scope s.heap.objs.size f cd cl)
 N:=N
 s₀:=s
 H₀:=H
 env:=W.envX qual scope s.heap.objs.size f cd cl
 outer:=outer
 stack:=W.envX qual scope s.heap.objs.size f cd cl::outer
 ex:=[]
 calm:=true
 fn:=fun _=>false
 pn:=[]
 xe:=fun e s'=>wpAny (model P w) (A.deeper (W.envX qual scope s.heap.objs.size f cd cl)) (leaving (W.envX qual scope s.heap.objs.size f cd cl) e) (fun _ s''=>CX1 P w outer H s E e s'') (fun e' s''=>CX1 P w outer H s E e' s'') s'
structure LamSt (N:List Str) (σ:St) (scope:Scope) (cl:List (Str × Addr)) (H:Hp) (h:Heap):Prop where
 inj:∀ x y c,cl.lookup x=some c→cl.lookup y=some c→x=y
 has:∀ x,(scope.names.lookup x=some .cell∨scope.names.lookup x=some .free)→∃ c,cl.lookup x=some c
 val:∀ (i:Nat) (x:Str) (v:V),N[i]?=some x→σ[i]?=some (some v)→∃ u c,RelV v u∧scope.names.lookup x=some .free∧cl.lookup x=some c∧h.IsCell c (some u)
 cell:∀ x c,cl.lookup x=some c→(∃ v,h.IsCell c v)∧H c=none
 len:σ.length=N.length
section
variable {P:Program}{w:World}{K:W.Frag}{mg:Str→Option Value}{base:Heap}{N:List Str}{σ:St}{qual:Str}{scope:Scope}{f:Addr}{cd:Value}{cl:List (Str × Addr)}{A:Around}{outer:List Env}{s:Shared}{H:Hp}{E:XK}
theorem cell_kept {h h':Heap}{c:Addr}{v:Option Value} (x:h.IsCell c v) (k:∀ o,h.get? c=some o→h'.get? c=some o):h'.IsCell c v:=let ⟨o,e,d⟩:=x; ⟨o,k o e,d⟩
theorem lam_inv (e0:Env0 P w K mg base A outer s H) (hd:A.handled=none) (hk:scope.kind=.function) (L:LamSt N σ scope cl H s.heap) {h₁:Heap}{tk:Tok}{m:Str→Option Value} (hns:h₁.Ns s.heap.objs.size m) (hk₁:∀ b o,s.heap.get? b=some o→h₁.get? b=some o) :
  Inv (cxLam P w K mg base N qual scope f cd cl A outer s H E) [] σ H { s with heap:=h₁,toks:=tk }:=by
 have noA:∀ b:Addr,b∉(cxLam P w K mg base N qual scope f cd cl A outer s H E).ex:=fun b z=>absurd (show b∈([]:List Addr) from z) (by simp)
 refine ⟨⟨e0.mod,hk,rfl,rfl,Nat.le_refl _,L.inj,L.has,fun _ _ z=>(by cases z),fun _=>hd,Around.frames_deeper e0.frames,.inr ⟨rfl,rfl⟩,fun b z=>absurd z (noA b),e0.bs,e0.bsz,fun b _ _=>noA b,fun b z=>absurd z (noA b),e0.funs,e0.frf⟩,
  rfl,e0.bare,Un.kept hk₁,⟨m,hns,fun i y v h1 h2 h3=>?_⟩,fun y c h=>?_,e0.hok.fresh (Nat.le_refl _),fun y c h=>(L.cell y c h).2,fun p hp=>absurd (show p∈([]:List (Addr × Obj)) from hp) (by simp),e0.hok.kept hk₁,L.len⟩
 ·obtain ⟨u,c,r,e1,e2,e3⟩:=L.val i y v h1 h2
  exact ⟨u,r,.inr ⟨.inr e1,c,e2,cell_kept e3 fun o=>hk₁ c o⟩⟩
 ·obtain ⟨v,x⟩:=(L.cell y c h).1
  exact ⟨v,cell_kept x fun o=>hk₁ c o⟩
theorem lam_own:Own1 (cxLam P w K mg base N qual scope f cd cl A outer s H E) E:=⟨rfl,rfl,rfl,rfl⟩
theorem lam_run {k:Nat}{name:Str}{params:Arguments}{body:Expr}{pm ctv:Value}{t:TE}{Q:VK} (hr:Room k A) (hk1:1≤k) (e0:Env0 P w K mg base A outer s H)
  (ho:s.heap.get? f=some { cls:=.type "function",data:=.func (W.kla_fn name qual params body scope cl pm cd ctv) }) (hcd:s.heap.CodeRec cd qual)
  (hk:scope.kind=.function) (hco:scope.isCoroutine=false) (hgen:scope.isGenerator=false) (hcell:∀ x∈scope.names,x.2≠.cell)
  (hb:bindArgs (W.kla_fn name qual params body scope cl pm cd ctv) ⟨[],[]⟩=pure []) (L:LamSt N σ scope cl H s.heap)
  (hbody:PE (cxLam P w K mg base N qual scope f cd cl A outer s H E) body t) (ht:t σ H Q) :
  codeAny (model P w) A (.call (.ref f) ⟨[],[]⟩) (CR (CX1 P w) outer P w H s Q E) s:=by
 have lim:s.heap.NoLimit:=e0.mod.nolimit.keeps fun b o e=>(e0.bs b o e).1
 have hr1:Room 1 A:=hr.mono hk1
 refine W.kla_callFunE hr1.depth ho rfl hco hgen rfl hcd ?_
 rw [hb]
 refine wpAny_pure (wpAny_newFunctionEnv hcell (fun _ z=>nomatch z) (fun h₁ hns hsb=>⟨lim.fresh _ hsb,?_⟩) hk)
 show codeAny _ _ (.expr body (W.envX qual scope s.heap.objs.size f cd cl)) _ _
 have hk₁:∀ b o,s.heap.get? b=some o→h₁.get? b=some o:=fun b o e=>hsb.extBut b o (Nat.ne_of_lt (Heap.lt_size e)) (Heap.get?_push_of_some _ e)
 refine W.kla_codeExpr (wpAny_mono (hbody [] _ σ H Q (lam_inv e0 hr1.hd hk L hns hk₁) ht) (fun v s' h=>?_) fun _ _ y=>y)
 obtain ⟨v',H',I',r,q⟩:=h
 exact ⟨v',H',I'.os,I'.bare,I'.base,I'.hok,r,q⟩
end
open PySem PySem.Spec PyProof.Rows
structure New1 (X:Cx) (pins:List (Addr × Obj)) (H:Hp) (b:Addr):Prop where
 s0:X.s₀.heap.get? b=none
 h:H b=none
 l:b≠X.env.locals
 c:∀ x c,X.env.cells.lookup x=some c→c≠b
 p:∀ p∈X.pn++pins,p.1≠b
section
variable {X:Cx}{pins:List (Addr × Obj)}{σ:St}{H H':Hp}{s:Shared}
theorem Inv.new1 (I:Inv X pins σ H s) (hex:X.ex=[]) {b:Addr} (hb:s.heap.get? b=none) (hH:H' b=none):New1 X pins H' b:=by
 refine ⟨?_,hH,fun z=>?_,fun x c e z=>?_,fun p hp z=>?_⟩
 ·cases q:X.s₀.heap.get? b with
  | none=>rfl
  | some ob =>
   obtain ⟨o',q'⟩:=I.base.there b ob q (by rw [hex]; simp)
   rw [hb] at q'; cases q'
 ·obtain ⟨m,⟨o,es,ep,e,_⟩,_⟩:=I.loc
  rw [← z,hb] at e; cases e
 ·obtain ⟨v,o,q,_⟩:=I.cell x c e
  rw [z,hb] at q; cases q
 ·have q:=(I.pin p hp).1
  rw [z,hb] at q; cases q
theorem Inv.touch (I:Inv X pins σ H s) (hex:X.ex=[]) {h':Heap}{wr:List Addr} (keep:∀ b o,s.heap.get? b=some o→b∉wr→b∉frs X.stack→h'.get? b=some o)
  (slot:∀ b o,s.heap.get? b=some o→b∉wr→∃ sl,h'.get? b=some { o with slots:=sl }) (there:∀ b o,s.heap.get? b=some o→∃ o',h'.get? b=some o') (hw:∀ b∈wr,New1 X pins H b):Inv X pins σ H { s with heap:=h' }:=by
 have ex:∀ b,b∉X.ex:=fun b hb=>by rw [hex] at hb; cases hb
 have n0:∀ b ob,X.s₀.heap.get? b=some ob→b∉wr:=fun b ob q m=>by rw [(hw b m).s0] at q; cases q
 have nL:∀ b ob,X.s₀.heap.get? b=some ob→b≠X.env.locals:=fun b ob q=>Nat.ne_of_lt (Nat.lt_of_lt_of_le (Heap.lt_size q) I.ok.above)
 have nS:∀ b,b≠X.env.locals→b∉X.fs→b∉frs X.stack:=fun b h1 h2 m=>(List.mem_cons.mp (I.stkSub b m)).elim h1 h2
 refine ⟨I.ok,I.os,I.bare,⟨fun b ob q n hb _=>?_,fun b ob q n hb _=>?_,fun b ob q n _=>I.base.free b ob q n (ex b),fun b ob q _=>?_,I.base.tups,I.base.frzs,I.base.tbls⟩,?_,fun x c e=>?_,I.free,I.freeC,fun p hp=>?_,?_,I.len⟩
 ·exact keep b ob (I.base.keep b ob q n hb (ex b)) (n0 b ob q) (nS b (nL b ob q) hb)
 ·obtain ⟨sl,q1⟩:=I.base.slot b ob q n hb (ex b)
  obtain ⟨sl',q2⟩:=slot b _ q1 (n0 b ob q)
  exact ⟨sl',q2⟩
 ·obtain ⟨o',q1⟩:=I.base.there b ob q (ex b)
  exact there b o' q1
 ·obtain ⟨m,⟨o,es,ep,e,d,r⟩,hv⟩:=I.loc
  obtain ⟨sl,e'⟩:=slot _ _ e fun z=>(hw _ z).l rfl
  refine ⟨m,⟨_,es,ep,e',d,r⟩,fun i x v h1 h2 h3=>?_⟩
  obtain ⟨u,r,l⟩:=hv i x v h1 h2 h3
  refine ⟨u,r,?_⟩
  rcases l with l | ⟨k,c,e1,o2,e2,d2⟩
  ·exact .inl l
  ·obtain ⟨sl2,e3⟩:=slot _ _ e2 fun z=>(hw _ z).c x c e1 rfl
   exact .inr ⟨k,c,e1,_,e3,d2⟩
 ·obtain ⟨v,o2,e2,d2⟩:=I.cell x c e
  obtain ⟨sl2,e3⟩:=slot _ _ e2 fun z=>(hw _ z).c x c e rfl
  exact ⟨v,_,e3,d2⟩
 ·obtain ⟨p1,p2,p3,p4,p5⟩:=I.pin p hp
  exact ⟨keep _ _ p1 (fun z=>(hw _ z).p p hp rfl) (nS _ p3 p4),p2,p3,p4,p5⟩
 ·exact fun a o q=>(I.hok a o q).stay (fun b u hb r=>by
   have hs:∃ z,H b=some z:=by
    rcases hb with rfl | hb
    ·exact ⟨o,q⟩
    ·exact ⟨_,hb⟩
   obtain ⟨z,hz⟩:=hs
   refine keep b u r (fun m=>?_) fun m=>?_
   ·rw [(hw b m).h] at hz; cases hz
   ·rw [I.stkFree b m] at hz; cases hz) (fun _ r=>r) fun _ _ r=>r
noncomputable def Cx.marked (X:Cx) (e:Addr):Cx:={ X with A:=X.A.mark (some (.ref e)),calm:=false,xe:=fun _ _=>False }
theorem Inv.marked (I:Inv X pins σ H s) (e:Addr):Inv (X.marked e) pins σ H s :=
 ⟨⟨I.ok.mod,I.ok.kind,I.ok.glob,I.ok.blt,I.ok.above,I.ok.inj,I.ok.has,I.ok.cab,fun z=>(by cases z),I.ok.frames,I.ok.stk,I.ok.exf,I.ok.bs,I.ok.bsz,I.ok.noex,I.ok.exfs,I.ok.funs,I.ok.frf⟩,I.os,I.bare,I.base,I.loc,I.cell,I.free,I.freeC,I.pin,I.hok,I.len⟩
theorem Inv.unmark {e:Addr} (ok:X.Ok) (I:Inv (X.marked e) pins σ H s):Inv X pins σ H s:=⟨ok,I.os,I.bare,I.base,I.loc,I.cell,I.free,I.freeC,I.pin,I.hok,I.len⟩
theorem SP.unmark {e:Addr}{D:Ends}{f:Flow} (ok:X.Ok) (h:SP (X.marked e) pins D f s):SP X pins D f s:=by
 cases f with
 | next=>obtain ⟨σ',H',I,q⟩:=h; exact ⟨σ',H',I.unmark ok,q⟩
 | brk=>obtain ⟨σ',H',I,q⟩:=h; exact ⟨σ',H',I.unmark ok,q⟩
 | cont=>obtain ⟨σ',H',I,q⟩:=h; exact ⟨σ',H',I.unmark ok,q⟩
 | ret u=>obtain ⟨v,σ',H',I,r,q⟩:=h; exact ⟨v,σ',H',I.unmark ok,r,q⟩
inductive HsOk (X:Cx) (j:Nat):List ExceptHandler→List (Addr × Str)→Prop
 | nil:HsOk X j [] []
 | cons {x y w:Str}{p q q2 q3 q4:Pos}{jj:Nat}{C:Addr}{r:List ExceptHandler}{ws:List (Addr × Str)} (hg:Gl X x) (hm:X.mg x=some (.ref C)) (hd:(x == ("__debug__":Str))=false) (hy:X.N[j]?=some y) (hl:X.env.scope.names.lookup y=some .local) (t:HsOk X j r ws) :
   HsOk X j (.ExceptHandler (some (.Name x p)) none [.Assign [.Name y q] (.Constant (.str w) jj q2) q3] q4::r) ((C,w)::ws)
inductive Picks (K:W.Frag) (cls:Value):List (Addr × Str)→Str→Prop
 | here {C:Addr}{w:Str}{r:List (Addr × Str)} (h:W.exmOne K cls (.ref C)=some true):Picks K cls ((C,w)::r) w
 | there {C:Addr}{v w:Str}{r:List (Addr × Str)} (h:W.exmOne K cls (.ref C)=some false) (t:Picks K cls r w):Picks K cls ((C,v)::r) w
theorem handle_walk {e T:Addr}{cls:Value}{j:Nat}{ws:List (Addr × Str)}{w:Str} (pk:Picks X.K cls ws w) (hex:X.ex=[]) (hN:X.N.Nodup) (I:Inv X pins σ H s) (tr:Trc s.heap e T cls) (nT:New1 X pins H T) {D:Ends} (hD:D.nx (σ.set j (some (.str w))) H) {E':Value→Shared→Prop} :
  ∀ {hs:List ExceptHandler},HsOk X j hs ws→wpAny (model X.prog X.w) X.A (handleBy (.ref e) X.env hs) (SP X pins D) E' s:=by
 obtain ⟨oe,vs,oT,ts,he,hcls,hd,h1,nTe,hT,hdT,h3⟩:=tr
 have LT:W.Looks (model X.prog X.w) s.heap (typeOf (.ref e)) cls:=hcls▸(W.Looks.ld he).andThen .now
 induction pk with
 | @here C w r h =>
  intro hs hk
  cases hk with
  | @cons x y w p q q2 q3 q4 jj C r ws hg hm hdb hy hl t =>
   refine wpAny_handleBy_cons (codeAny_handlers_test (ld_glob (X:=X.marked e) (I.marked e) hg hm ?_ hdb)) (by intro q; cases q)
   refine W.exm_one I.kIn LT h _ _ _ s (fun _ _ z=>z) ?_
   refine codeAny_handlers_suite (wpAny_setFlight_none he hd h1 hT hdT (Array.getElem?_eq_some_iff.mp h3).1 ?_)
   have up:∀ b,b≠T→(s.heap.update T (Obj.mapFields (·.setIfInBounds 3 .none))).get? b=s.heap.get? b:=fun b hb=>Heap.get?_update_other _ _ (Ne.symm hb)
   have I2:Inv X pins σ H { s with heap:=s.heap.update T (Obj.mapFields (·.setIfInBounds 3 .none)) }:=by
    refine I.touch hex (wr:=[T]) (fun b o q n _=>(up b (by simpa using n)).trans q) (fun b o q n=>⟨o.slots,(up b (by simpa using n)).trans q⟩) (fun b o q=>?_) fun b hb=>by simp at hb; subst hb; exact nT
    by_cases z:b=T
    ·subst z
     exact ⟨_,Heap.get?_update_self _ hT (Obj.isFreed_of_fields (Obj.data_mapFields hdT _))⟩
    ·exact ⟨o,(up b z).trans q⟩
   have ps:PSs (X.marked e) [.Assign [.Name y q] (.Constant (.str w) jj q2) q3] (tSeq (tAsg (tC (.str w)) (gName j)) tNext):=pss_cons (ps_asg pe_str (pg_name hN hy (.inl hl) (.inr hl))) pss_nil
   exact wpAny_mono (ps pins _ σ H D (I2.marked e) hD) (fun f s2 z=>z.unmark I.ok) fun _ _ z=>False.elim z
 | @there C v w r h t ih =>
  intro hs hk
  cases hk with
  | @cons x y w' p q q2 q3 q4 jj C r ws hg hm hdb hy hl tl =>
   refine wpAny_handleBy_cons (codeAny_handlers_test (ld_glob (X:=X.marked e) (I.marked e) hg hm ?_ hdb)) (by intro q; cases q)
   refine W.exm_one I.kIn LT h _ _ _ s (fun _ _ z=>z) ?_
   exact ih hD tl
def LamC (X:Cx) (f:Addr) (H:Hp) (Q:VK) (E:XK):Prop:=∀ pins σ s,Inv X pins σ H s→W.FnAt f s.heap∧codeAny (model X.prog X.w) X.A (.call (.ref f) ⟨[],[]⟩) (CR (CX1 X.prog X.w) X.stack X.prog X.w H s Q E) s
noncomputable def tTake (X:Cx) (i j:Nat) (ws:List (Addr × Str)) (f:Addr):TS:=fun D σ H=>σ[i]?=some (some (.ref f))∧LamC X f H (fun _ H'=>D.nx σ H') fun C _ H'=>∃ w,Picks X.K C ws w∧D.nx (σ.set j (some (.str w))) H'
theorem ps_take {i j:Nat}{x:Str}{p1 p2 p3 p4:Pos}{h0:ExceptHandler}{hs:List ExceptHandler}{ws:List (Addr × Str)}{f:Addr} (stk:X.stack=X.env::X.outer) (fr:X.env.frame=some X.env.locals) (hex:X.ex=[]) (hN:X.N.Nodup) (hi:X.N[i]?=some x) (hv:Vis X.env.scope x)
  (hdb:(x == ("__debug__":Str))=false) (hcd:(x == ("__classdict__":Str))=false) (hk:HsOk X j (h0::hs) ws):PS X (.Try [.Expr (.Call (.Name x p1) [] [] p2) p3] (h0::hs) [] [] p4) (tTake X i j ws f):=by
 intro pins s σ H D I h
 obtain ⟨hf,lc⟩:=h
 refine wpAny_Try_except (wpAny_execs_cons (wpAny_Expr_any (wpAny_Call_Name_kw ?_) I.quiet (by rfl)))
 refine wpAny_mono (pe_var (X:=X.nox) hi hv hdb hcd pins s σ H (fun v H1=>v=.ref f∧H1=H) (I.wish _) ⟨.ref f,hf,rfl,rfl⟩) (fun u s1 z=>?_) fun _ _ z=>False.elim z
 ·obtain ⟨v,H1,I1,r,e1,e2⟩:=z
  have I1:=I1.unwish
  subst e1 e2
  have eu:u=.ref f:=r
  subst eu
  obtain ⟨fa,run⟩:=lc pins σ s1 I1
  refine W.callWith_F0 fa (wpAny_call (codeAny_mono run fun r s2 h=>?_))
  cases r with
  | error ev =>
   obtain ⟨e,T,C,H',rfl,tr,ne,nT,os,bare,un,hok,he,hT,w,pk,hD⟩:=h
   have I':Inv X pins σ H' s2:=I1.call' os un hok bare fun b z=>absurd z (by simp)
   have fl:=I'.stack
   have frm:=I'.ok.frames
   rw [stk] at fl frm
   refine note_next frm fl fr tr fun h' lf=>?_
   rw [← stk] at lf
   obtain ⟨T',hT',tr'⟩:=lf.tr
   have I2:Inv X pins σ H' { s2 with heap:=h' }:=I'.touch hex lf.keep lf.slot lf.there fun b hb=>by
    simp only [List.mem_cons,List.not_mem_nil,or_false] at hb
    rcases hb with rfl | rfl
    ·exact I1.new1 hex ne he
    ·exact I1.new1 hex nT hT
   exact handle_walk pk hex hN I2 tr' (I'.new1 hex (Heap.get?_none_of_le hT') (I'.hok.fresh hT')) hD hk
  | ok fl =>
   cases fl with
   | ret u =>
    obtain ⟨v,H',I',_,q⟩:=I1.after h
    exact wpAny_execs_nil (wpAny_execs_nil ⟨σ,H',I',q⟩)
   | next=>exact False.elim h
   | brk=>exact False.elim h
   | cont=>exact False.elim h
end
open PySem PySem.Spec PyProof.Rows
noncomputable def tkBody (c y y':Str) (h0:ExceptHandler) (hs:List ExceptHandler) (p1 p2 p3 p4 p5 p6 p7 p8 p9:Pos) (j:Nat):List Stmt :=
 [.Assign [.Name y p1] (.Constant .none j p2) p3,.Try [.Expr (.Call (.Name c p4) [] [] p5) p6] (h0::hs) [] [] p7,.Return (some (.Name y' p8)) p9]
section
variable {X:Cx}
theorem pss_taker {c y:Str}{h0:ExceptHandler}{hs:List ExceptHandler}{p1 p2 p3 p4 p5 p6 p7 p8 p9:Pos}{j:Nat}{ws:List (Addr × Str)}{f:Addr}{H:Hp}{D:Ends} (stk:X.stack=X.env::X.outer) (fr:X.env.frame=some X.env.locals) (hex:X.ex=[]) (hN:X.N=[c,y]) (nd:c≠y)
  (hv:Vis X.env.scope c) (hc1:(c == ("__debug__":Str))=false) (hc2:(c == ("__classdict__":Str))=false) (hl:X.env.scope.names.lookup y=some .local) (hy1:(y == ("__debug__":Str))=false) (hy2:(y == ("__classdict__":Str))=false) (hk:HsOk X 1 (h0::hs) ws)
  (lc:LamC X f H (fun _ H'=>D.rt .non H') fun C _ H'=>∃ w,Picks X.K C ws w∧D.rt (.str w) H') {pins:List (Addr × Obj)}{s:Shared} (I:Inv X pins (start [c,y] [.ref f]) H s) :
  wpAny (model X.prog X.w) X.A (execs (tkBody c y y h0 hs p1 p2 p3 p4 p5 p6 p7 p8 p9 j) X.env) (SP X pins D) X.xe s:=by
 have i0:X.N[0]?=some c:=by rw [hN]; rfl
 have i1:X.N[1]?=some y:=by rw [hN]; rfl
 have hn:X.N.Nodup:=by rw [hN]; simp [nd]
 have a:=ps_asg (pos:=p3) (pe_non (X:=X) (j:=j) (pos:=p2)) (pg_name (pos:=p1) hn i1 (.inl hl) (.inr hl))
 have b:=ps_take (j:=1) (p1:=p4) (p2:=p5) (p3:=p6) (p4:=p7) (f:=f) stk fr hex hn i0 hv hc1 hc2 hk
 have r:=ps_ret (pos:=p9) (pe_var (pos:=p8) i1 (.inl hl) hy1 hy2)
 refine pss_cons a (pss_cons b (pss_cons r pss_nil)) pins s _ H D I ⟨rfl,fun pins σ s I=>?_⟩
 obtain ⟨z1,z2⟩:=lc pins σ s I
 refine ⟨z1,codeAny_mono z2 fun r s' q=>?_⟩
 cases r with
 | error ev =>
  obtain ⟨e,T,C,H',rfl,tr,ne,nT,os,bare,un,hok,he,hT,w,pk,hD⟩:=q
  exact ⟨e,T,C,H',rfl,tr,ne,nT,os,bare,un,hok,he,hT,w,pk,.str w,rfl,hD⟩
 | ok fl =>
  cases fl with
  | ret u =>
   obtain ⟨v,H',os,bare,un,hok,r,q⟩:=q
   exact ⟨v,H',os,bare,un,hok,r,.non,rfl,q⟩
  | next=>exact q
  | brk=>exact q
  | cont=>exact q
end
section
variable {P:Program}{w:World}{K:W.Frag}{mg:Str→Option Value}{base:Heap}
theorem taker_run {x c y:Str}{st:Stmt}{fa f:Addr}{fd:FuncData}{h0:ExceptHandler}{hs:List ExceptHandler}{p1 p2 p3 p4 p5 p6 p7 p8 p9:Pos}{j:Nat}{ws:List (Addr × Str)}{A:Around}{outer:List Env}{s:Shared}{H:Hp}{Q:VK} (F:Fun K x x st fa fd) (S:FnScope [c,y] [c] (defScope st)) (hb:Binds K fd [c] [])
  (hbody:defBody st=tkBody c y y h0 hs p1 p2 p3 p4 p5 p6 p7 p8 p9 j) (hc1:(c == ("__debug__":Str))=false) (hc2:(c == ("__classdict__":Str))=false) (hl:(defScope st).names.lookup y=some .local) (hy1:(y == ("__debug__":Str))=false) (hy2:(y == ("__classdict__":Str))=false)
  (hd:A.depth<recursionLimit) (hh:A.handled=none) (e0:Env0 P w K mg base A outer s H)
  (hk:∀ cdv,HsOk (cxOf CX0 P w K mg base [c,y] x (defScope st) fa cdv A outer s H E0) 1 (h0::hs) ws)
  (lc:∀ cdv,LamC (cxOf CX0 P w K mg base [c,y] x (defScope st) fa cdv A outer s H E0) f H (fun _ H'=>Q .non H') fun C _ H'=>∃ w,Picks K C ws w∧Q (.str w) H') :
  codeAny (model P w) A (.call (.ref fa) ⟨[.ref f],[]⟩) (CR CX0 outer P w H s Q E0) s:=by
 obtain ⟨oc,od,kV,doc,pm,an,cdv,ct,osl,rfl,lk,hcd⟩:=F.ex
 have KX:K.In s.heap:=e0.mod.kin.keeps fun b o e=>(e0.bs b o e).1
 have lim:s.heap.NoLimit:=e0.mod.nolimit.keeps fun b o e=>(e0.bs b o e).1
 have hkind:∀ z∈[(c,Value.ref f)],(defScope st).names.lookup z.1=some .local∨((defScope st).names.lookup z.1=some .cell∧((cellsFrom (s.heap.objs.size+1) (defScope st).names []).lookup z.1).isSome=true):=fun z hz=>by
  simp only [List.mem_cons,List.not_mem_nil,or_false] at hz
  subst hz
  rcases S.par c (by simp) with q | q
  ·exact .inl q
  ·exact .inr ⟨q,W.cellsFrom_some _ _ _ (.inl q)⟩
 refine codeAny_call_function hd (KX _ _ lk) rfl S.co S.gen rfl (W.codeRec_of KX hcd) (hb s [.ref f] KX rfl _ _ _ _ (wpAny_newFunctionEnv_cells S.kind hkind fun env he s1 z=>?_))
 subst he
 refine ⟨lim.keeps z.toInCall.keep,codeAny_func ?_⟩
 have I:Inv (cxOf CX0 P w K mg base [c,y] x (defScope st) fa cdv A outer s H E0) [] (start [c,y] [.ref f]) H s1:=inv_start S hh e0 rfl (.cons rfl .nil) z
 rw [hbody]
 have nd:c≠y:=by have:=S.nd; simp at this; exact this
 have hv:Vis (defScope st) c:=(S.par c (by simp)).elim .inl fun q=>.inr (.inl q)
 refine wpAny_mono (pss_taker (D:={ nx:=fun _ H'=>Q .non H',rt:=Q }) (X:=cxOf CX0 P w K mg base [c,y] x (defScope st) fa cdv A outer s H E0) rfl rfl rfl rfl nd hv hc1 hc2 hl hy1 hy2 (hk cdv) (lc cdv) I) (fun fl s' q=>?_) fun e s' q=>q
 cases fl with
 | ret u =>
  obtain ⟨v,σ',H',J,rv,q⟩:=q
  exact ⟨v,H',J.os,J.bare,J.base,J.hok,rv,q⟩
 | next =>
  obtain ⟨σ',H',J,q⟩:=q
  exact ⟨.non,H',J.os,J.bare,J.base,J.hok,rfl,q⟩
 | brk =>
  obtain ⟨_,_,_,q⟩:=q
  exact False.elim q
 | cont =>
  obtain ⟨_,_,_,q⟩:=q
  exact False.elim q
end
open PySem PySem.Spec PyProof.Rows
structure ExcG (K:W.Frag) (C:Addr):Prop where
 ga:W.findIn K (.ref C) "__getattribute__"=some (some (.builtin "BaseException.__getattribute__"))
 cl:W.findIn K (.ref C) "__class__"=some (some (.builtin "object.__class__"))
 mo:W.mroIn K C (.type "object")=some true
 mb:W.mroIn K C (.type "BaseException")=some true
 gn:W.findIn K (.ref C) "__getattr__"=some none
 it:(W.clsIn K C).isSome=true
section
open PySem.W Builtin Builtin.ObjectAttr Builtin.Getset_descriptor
variable {prog:Program}{w:World}{A:Around}{E:Value→Shared→Prop}{s:Shared}{K:W.Frag}{e C:Addr}{oe:Obj}
theorem exc_type {h:Heap} (he:h.get? e=some oe) (hc:oe.cls=.ref C) {M:Model}:W.Looks M h (typeOf (.ref e)) (.ref C):=hc▸(W.Looks.ld he).andThen .now
theorem exc_cget {R:Result→Shared→Prop}{tp:Value} (X:K.In s.heap) (g:ExcG K C) (he:s.heap.get? e=some oe) (hc:oe.cls=.ref C) (h:R (.ok (.ret (.ref C))) s) :
  codeAny (model prog w) A (.call (.builtin "getset_descriptor.__get__") ⟨[.builtin "object.__class__",.ref e,tp],[]⟩) R s:=by
 obtain ⟨hh,g',dr,t,os⟩:=s
 have L0:=exc_type he hc (M:=model prog w)
 have L1:=W.looks_mroIn (M:=model prog w) X g.mo
 refine codeAny_call_builtin KF.slot_gs.plain KF.entry_gs (KF.slot_gs.check _ _ _ _ _ _ _ _ KF.type_class (KF.args_gs _ _ _) ?_)
 unfold Builtin.«getset_descriptor.__get__» descrGet
 rw [dga_obj]
 refine wpAny_bind (wpAny_pure ?_)
 unfold descrGetter descrCheckInstance descrNameAndClass isInstance
 simp only [KF.owner_class]
 repeat lk
 refine ⟨Code.quiet_builtin _ (by decide +kernel),codeAny_builtin KF.entry_class ?_⟩
 unfold Builtin.«object.__class__» shownTypeOf
 repeat lk
 exact h
theorem exc_check {M:Model}{nameV:Value}{Q:Unit→Shared→Prop} (X:K.In s.heap) (g:ExcG K C) (he:s.heap.get? e=some oe) (hc:oe.cls=.ref C) (hq:Q () s):wpAny M A (checkBuiltinCall "BaseException.__getattribute__" ⟨[.ref e,nameV],[]⟩) Q E s:=by
 have hk:builtinKind "BaseException.__getattribute__"=some .slot:=by decide +kernel
 have hsplit:splitId "BaseException.__getattribute__"=some ("BaseException","__getattribute__"):=by decide +kernel
 have ha:=F.args_bexc_ga (.ref e) nameV
 obtain ⟨hh,g',dr,t,os⟩:=s
 have L0:=exc_type he hc (M:=M)
 have L1:=W.looks_mroIn (M:=M) X g.mb
 simp only [checkBuiltinCall,hk,hsplit]
 refine wpAny_bind ?_
 unfold isInstance
 refine wpAny_bind (L0.at (L1.at ?_))
 repeat (first | assumption | wp_step)
theorem exc_entry {tk:Tok}{Q:Fin→Shared→Prop} (X:K.In s.heap) (g:ExcG K C) (he:s.heap.get? e=some oe) (hc:oe.cls=.ref C) (hq:Q (.done (.ret (.ref C))) s) :
  wpAny (model prog w) A (Builtin.«object.__getattribute__» ⟨[.ref e,.str "__class__" tk],[]⟩) Q E s:=by
 obtain ⟨hh,g',dr,t,os⟩:=s
 have L0:=exc_type he hc (M:=model prog w)
 have L1:=W.looks_findIn (M:=model prog w) X g.cl
 have hT5:(⟨hh,g',dr,t,os⟩:Shared).TypeIs (.builtin "object.__class__") "getset_descriptor":=KF.type_class
 have f6:=F.slot_gs_get.lookup
 have f7:=F.slot_gs_set.lookup
 unfold Builtin.«object.__getattribute__»
 repeat (any_goals (first | assumption | with_reducible refine W.Looks.at (by assumption) ?_ | wp_step))
 refine exc_cget X g he hc ?_
 repeat (any_goals (first | assumption | wp_step))
theorem bexc_bind (self:Value):bindSpecial (.builtin "BaseException.__getattribute__") self=pure (.builtin "BaseException.__getattribute__",[self]):=F.attr_ValueError.ga.bind self
theorem exc_class {Q:Option Value→Shared→Prop} (X:K.In s.heap) (g:ExcG K C) (he:s.heap.get? e=some oe) (hc:oe.cls=.ref C) (h:Q (some (.ref C)) { s with toks:=s.toks+1 }) :
  wpAny (model prog w) A (getAttr? (.ref e) "__class__") Q E s:=by
 obtain ⟨hh,g',dr,t,os⟩:=s
 have L0:=exc_type he hc (M:=model prog w)
 have L1:=W.looks_findIn (M:=model prog w) X g.ga
 have L2:=W.looks_findIn (M:=model prog w) X g.gn
 unfold getAttr? getAttrBy? getAttrBy
 refine wpAny_bind (wpAny_mkText ?_)
 refine wpAny_bind (wpAny_attempt (wpAny_holding (wpAny_bind (L0.at (wpAny_bind (L1.at ?_))))))
 show wpAny _ _ (getAttrByItsOwn _ _ _ _ _ _) _ _ _
 unfold getAttrByItsOwn hookBefore
 rw [if_pos (show onTheHeap (Value.ref C)=true from rfl)]
 refine wpAny_bind (L2.at ?_)
 refine wpAny_bind (wpAny_attempt (wpAny_holding ?_))
 show wpAny _ _ (boundAndCalled _ _ _) _ _ _
 unfold boundAndCalled
 rw [bexc_bind]
 refine wpAny_bind (wpAny_pure ?_)
 refine wpAny_call (codeAny_call_builtin F.attr_ValueError.ga.plain F.entry_bexc_ga (exc_check (s:=⟨hh,g',dr,t+1,os⟩) X g he hc (exc_entry (s:=⟨hh,g',dr,t+1,os⟩) X g he hc ?_)))
 repeat (any_goals (first | assumption | wp_step))
theorem kitx_exc (g:ExcG K C):KitX K (.ref e) (.ref C) (fun h=>∃ oe,h.get? e=some oe∧oe.cls=.ref C) where
 ty:=fun M h X p=>by obtain ⟨oe,he,hc⟩:=p; exact exc_type he hc
 it:=fun _ _ X _=>by
  have hcD:=g.it
  unfold clsIn at hcD
  split at hcD
  ·rename_i c' d' cd' sl' ho
   intro A' Q' E' s' k q
   unfold isType loadHead
   exact wpAny_bind (wpAny_loadPart (k _ _ (X _ _ ho)) (wpAny_pure q))
  ·cases hcD
 ne:=fun h tp dd its n sl X htp=>by
  have hcD:=g.it
  refine Bool.eq_false_iff.mpr fun q=>?_
  have e:C=tp:=Value.ref.inj (beq_iff_eq.mp q)
  subst e
  unfold clsIn at hcD
  split at hcD
  ·rename_i c' d' cd' sl' ho
   have z:=(X _ _ ho).symm.trans htp
   cases z
  ·cases hcD
 ca:=fun X p k=>by obtain ⟨oe,he,hc⟩:=p; exact exc_class X g he hc k
end
open PySem PySem.Spec PyProof.Rows
section
variable {X:Cx}{pins:List (Addr × Obj)}{σ:St}{H H':Hp}{s:Shared}
noncomputable def xrec (e:Addr) (oe:Obj):HO:=.frz oe (.ext fun h=>h.get? e=some oe)
theorem Inv.adopt (I:Inv X pins σ H s) (hex:X.ex=[]) {e:Addr}{oe:Obj} (n:New1 X pins H e) (he:s.heap.get? e=some oe):Inv X pins σ (upd H e (xrec e oe)) s:=by
 have ne:∀ b u,H b=some u→b≠e:=fun b u q z=>by rw [z,n.h] at q; cases q
 have n0:∀ b ob,X.s₀.heap.get? b=some ob→b≠e:=fun b ob q z=>by rw [z,n.s0] at q; cases q
 have ex:∀ b,b∉X.ex:=fun b hb=>by rw [hex] at hb; cases hb
 refine ⟨I.ok,I.os,I.bare,⟨I.base.keep,I.base.slot,fun b o q z hx=>?_,I.base.there,fun b xs q=>?_,fun b o u q=>?_,fun b ps q=>?_⟩,I.loc,I.cell,?_,fun x c q=>?_,fun p hp=>?_,fun a o q=>?_,I.len⟩
 ·rw [upd_ne (n0 b o q)]; exact I.base.free b o q z hx
 ·have:=I.base.tups b xs q; rw [upd_ne (ne _ _ this)]; exact this
 ·have:=I.base.frzs b o u q; rw [upd_ne (ne _ _ this)]; exact this
 ·obtain ⟨m,this⟩:=I.base.tbls b ps q; exact ⟨m,by rw [upd_ne (ne _ _ this)]; exact this⟩
 ·rw [upd_ne (Ne.symm n.l)]; exact I.free
 ·rw [upd_ne (n.c x c q)]; exact I.freeC x c q
 ·obtain ⟨p1,p2,p3⟩:=I.pin p hp
  exact ⟨p1,by rw [upd_ne (n.p p hp)]; exact p2,p3⟩
 ·by_cases z:a=e
  ·subst z
   rw [upd_same] at q; cases q
   exact ⟨he,he,⟨oe,he⟩,fun h1 h2 p q=>q _ p⟩
  ·rw [upd_ne z] at q
   exact (I.hok a o q).stay (fun b u hb r=>r) (fun b r=>by rw [upd_ne (ne _ _ r)]; exact r) fun b xs r=>by rw [upd_ne (ne _ _ r)]; exact r
theorem name_goes {M:Model}{A:Around}{E:Value→Shared→Prop}{i:Nat}{x:Str}{pos:Pos}{Q:Unit→Shared→Prop} (I:Inv X pins σ H s) (hN:X.N.Nodup) (hi:X.N[i]?=some x) (hk:X.env.scope.names.lookup x=some .local)
  (h:∀ s',Inv X pins (σ.set i none) H s'→Q () s'):wpAny M A (do bindName X.env x .none; unbindBehindTheSuite X.env x pos) Q E s:=by
 obtain ⟨m,hn,hl⟩:=id I.loc
 have hcls:(X.env.scope.kind == .class||(X.env.scope.kind == .module&&X.env.locals != X.env.globals))=false:=by rw [I.ok.kind]; rfl
 have hiσ:i<σ.length:=by rw [I.len]; exact (List.getElem?_eq_some_iff.mp hi).1
 have cne:=I.cne
 obtain ⟨oL,_,_,hoL,_⟩:=id hn
 refine wpAny_nameGoes_keeps hk hn hcls fun h' u hn' hs=>?_
 refine h { s with heap:=h',toks:=s.toks+1 } ⟨I.ok,I.os,I.bare,⟨fun b o e n hb hx=>?_,fun b o e n hb hx=>?_,I.base.free,fun b o e hx=>?_,I.base.tups,I.base.frzs,I.base.tbls⟩,⟨_,hn',fun j y v' e1 e2 e3=>?_⟩,fun y c e=>?_,I.free,I.freeC,fun p hp=>?_,fun b ob e=>?_,by simpa using I.len⟩
 ·exact (hs.2 b (Nat.ne_of_lt (Nat.lt_of_lt_of_le (Heap.lt_size e) I.ok.above))).trans (I.base.keep b o e n hb hx)
 ·obtain ⟨sl,e1⟩:=I.base.slot b o e n hb hx
  exact ⟨sl,(hs.2 b (Nat.ne_of_lt (Nat.lt_of_lt_of_le (Heap.lt_size e) I.ok.above))).trans e1⟩
 ·obtain ⟨o',e1⟩:=I.base.there b o e hx
  exact ⟨o',(hs.2 b (Nat.ne_of_lt (Nat.lt_of_lt_of_le (Heap.lt_size e) I.ok.above))).trans e1⟩
 ·by_cases hj:j=i
  ·subst hj
   rw [List.getElem?_set_self hiσ] at e2
   cases e2
  ·rw [List.getElem?_set_ne (Ne.symm hj)] at e2
   obtain ⟨u',r',q⟩:=hl j y v' e1 e2 e3
   refine ⟨u',r',?_⟩
   rcases q with ⟨k,e⟩ | ⟨k,c,e,z⟩
   ·refine .inl ⟨k,?_⟩
    have:y≠x:=fun e=>hj (nodup_ix hN e1 (e▸hi))
    simp [this,e]
   ·exact .inr ⟨k,c,e,z.sameBut hs (cne y c e)⟩
 ·obtain ⟨w',z⟩:=I.cell y c e
  exact ⟨w',z.sameBut hs (cne y c e)⟩
 ·obtain ⟨e,n,ne,nf,d⟩:=I.pin p hp
  exact ⟨(hs.2 p.1 ne).trans e,n,ne,nf,d⟩
 ·refine (I.hok b ob e).stay (fun c w' hc q=>(hs.2 c ?_).trans q) (fun _ q=>q) fun _ _ q=>q
  rintro rfl
  rcases hc with rfl | hc
  ·rw [I.free] at e; cases e
  ·rw [I.free] at hc; cases hc
theorem handle_as {e T C:Addr}{cls:Value}{i j:Nat}{x en y:Str}{p q q2 q3 q4:Pos} (hx:W.exmOne X.K cls (.ref C)=some true) (hex:X.ex=[]) (hN:X.N.Nodup) (I:Inv X pins σ H s) (tr:Trc s.heap e T cls) (nT:New1 X pins H T) (nE:New1 X pins H e)
  (hg:Gl X x) (hm:X.mg x=some (.ref C)) (hdb:(x == ("__debug__":Str))=false) (hi:X.N[i]?=some en) (hle:X.env.scope.names.lookup en=some .local) (hn1:(en == ("__debug__":Str))=false) (hn2:(en == ("__classdict__":Str))=false) (hy:X.N[j]?=some y) (hl:X.env.scope.names.lookup y=some .local)
  {D:Ends} (hD:∀ oe,oe.cls=cls→D.nx (((σ.set i (some (.ref e))).set j (some (.ref e))).set i none) (upd H e (xrec e oe))) {E':Value→Shared→Prop} :
  wpAny (model X.prog X.w) X.A (handleBy (.ref e) X.env [.ExceptHandler (some (.Name x p)) (some en) [.Assign [.Name y q] (.Name en q2) q3] q4]) (SP X pins D) E' s:=by
 obtain ⟨oe,vs,oT,ts,he,hcls,hd,h1,nTe,hT,hdT,h3⟩:=tr
 have LT:W.Looks (model X.prog X.w) s.heap (typeOf (.ref e)) cls:=hcls▸(W.Looks.ld he).andThen .now
 refine wpAny_handleBy_cons (codeAny_handlers_test (ld_glob (X:=X.marked e) (I.marked e) hg hm ?_ hdb)) (by intro q; cases q)
 refine W.exm_one I.kIn LT hx _ _ _ s (fun _ _ z=>z) ?_
 refine codeAny_handlers_suite_as (wpAny_setFlight_none he hd h1 hT hdT (Array.getElem?_eq_some_iff.mp h3).1 ?_)
 have up:∀ b,b≠T→(s.heap.update T (Obj.mapFields (·.setIfInBounds 3 .none))).get? b=s.heap.get? b:=fun b hb=>Heap.get?_update_other _ _ (Ne.symm hb)
 have I2:Inv X pins σ H { s with heap:=s.heap.update T (Obj.mapFields (·.setIfInBounds 3 .none)) }:=by
  refine I.touch hex (wr:=[T]) (fun b o q n _=>(up b (by simpa using n)).trans q) (fun b o q n=>⟨o.slots,(up b (by simpa using n)).trans q⟩) (fun b o q=>?_) fun b hb=>by simp at hb; subst hb; exact nT
  by_cases z:b=T
  ·subst z
   exact ⟨_,Heap.get?_update_self _ hT (Obj.isFreed_of_fields (Obj.data_mapFields hdT _))⟩
  ·exact ⟨o,(up b z).trans q⟩
 have I3:=I2.adopt hex nE ((up e (Ne.symm nTe)).trans he)
 refine store_ok (v:=.ref e) I3 hN hi (.inl hle) rfl (fun s4 I4=>?_) (.inr hle)
 have ps:PSs (X.marked e) [.Assign [.Name y q] (.Name en q2) q3] (tSeq (tAsg (tVar i) (gName j)) tNext):=pss_cons (ps_asg (pe_var hi (.inl hle) hn1 hn2) (pg_name hN hy (.inl hl) (.inr hl))) pss_nil
 have hiσ:i<σ.length:=by rw [I.len]; exact (List.getElem?_eq_some_iff.mp hi).1
 refine wpAny_mono (ps pins s4 _ _ { nx:=fun σ' H'=>σ'=(σ.set i (some (.ref e))).set j (some (.ref e))∧H'=upd H e (xrec e oe),rt:=fun _ _=>False } (I4.marked e) ⟨.ref e,by rw [List.getElem?_set_self hiσ],rfl,rfl⟩) (fun f s5 z=>?_) fun _ _ z=>False.elim z
 cases f with
 | next =>
  obtain ⟨σ',H',J,rfl,rfl⟩:=z
  exact name_goes (J.unmark I.ok) hN hi hle fun s6 J6=>⟨_,_,J6,hD oe hcls⟩
 | brk=>obtain ⟨_,_,_,z⟩:=z; exact False.elim z
 | cont=>obtain ⟨_,_,_,z⟩:=z; exact False.elim z
 | ret u=>obtain ⟨_,_,_,_,_,z⟩:=z; exact False.elim z
noncomputable def tTakeE (X:Cx) (i k j:Nat) (C:Addr) (f:Addr):TS:=fun D σ H=>σ[i]?=some (some (.ref f))∧LamC X f H (fun _ H'=>D.nx σ H') fun c _ H'=>W.exmOne X.K c (.ref C)=some true∧∀ e oe,H' e=none→oe.cls=c→D.nx (((σ.set k (some (.ref e))).set j (some (.ref e))).set k none) (upd H' e (xrec e oe))
theorem ps_takeE {i k j:Nat}{x en y g:Str}{p1 p2 p3 p4 p q q2 q3 q4:Pos}{C f:Addr} (stk:X.stack=X.env::X.outer) (fr:X.env.frame=some X.env.locals) (hex:X.ex=[]) (hN:X.N.Nodup) (hi:X.N[i]?=some x) (hv:Vis X.env.scope x)
  (hdb:(x == ("__debug__":Str))=false) (hcd:(x == ("__classdict__":Str))=false) (hg:Gl X g) (hm:X.mg g=some (.ref C)) (hgd:(g == ("__debug__":Str))=false) (hk:X.N[k]?=some en) (hle:X.env.scope.names.lookup en=some .local) (hn1:(en == ("__debug__":Str))=false) (hn2:(en == ("__classdict__":Str))=false) (hy:X.N[j]?=some y) (hl:X.env.scope.names.lookup y=some .local) :
  PS X (.Try [.Expr (.Call (.Name x p1) [] [] p2) p3] [.ExceptHandler (some (.Name g p)) (some en) [.Assign [.Name y q] (.Name en q2) q3] q4] [] [] p4) (tTakeE X i k j C f):=by
 intro pins s σ H D I h
 obtain ⟨hf,lc⟩:=h
 refine wpAny_Try_except (wpAny_execs_cons (wpAny_Expr_any (wpAny_Call_Name_kw ?_) I.quiet (by rfl)))
 refine wpAny_mono (pe_var (X:=X.nox) hi hv hdb hcd pins s σ H (fun v H1=>v=.ref f∧H1=H) (I.wish _) ⟨.ref f,hf,rfl,rfl⟩) (fun u s1 z=>?_) fun _ _ z=>False.elim z
 ·obtain ⟨v,H1,I1,r,e1,e2⟩:=z
  have I1:=I1.unwish
  subst e1 e2
  have eu:u=.ref f:=r
  subst eu
  obtain ⟨fa,run⟩:=lc pins σ s1 I1
  refine W.callWith_F0 fa (wpAny_call (codeAny_mono run fun r s2 h=>?_))
  cases r with
  | error ev =>
   obtain ⟨e,T,c,H',rfl,tr,ne,nT,os,bare,un,hok,he,hT,hx,hD⟩:=h
   have I':Inv X pins σ H' s2:=I1.call' os un hok bare fun b z=>absurd z (by simp)
   have fl:=I'.stack
   have frm:=I'.ok.frames
   rw [stk] at fl frm
   refine note_next frm fl fr tr fun h' lf=>?_
   rw [← stk] at lf
   obtain ⟨T',hT',tr'⟩:=lf.tr
   have nE:=I1.new1 hex ne he
   have I2:Inv X pins σ H' { s2 with heap:=h' }:=I'.touch hex lf.keep lf.slot lf.there fun b hb=>by
    simp only [List.mem_cons,List.not_mem_nil,or_false] at hb
    rcases hb with rfl | rfl
    ·exact nE
    ·exact I1.new1 hex nT hT
   exact handle_as hx hex hN I2 tr' (I'.new1 hex (Heap.get?_none_of_le hT') (I'.hok.fresh hT')) nE hg hm hgd hk hle hn1 hn2 hy hl fun oe q=>hD e oe he q
  | ok fl =>
   cases fl with
   | ret u =>
    obtain ⟨v,H',I',_,q⟩:=I1.after h
    exact wpAny_execs_nil (wpAny_execs_nil ⟨σ,H',I',q⟩)
   | next=>exact False.elim h
   | brk=>exact False.elim h
   | cont=>exact False.elim h
end
open PySem PySem.Spec PyProof.Rows
inductive D where
 | non | bl (b:Bool) | int (i:Int) | str (x:Str) | ty (n:String) | tup (xs:List D) | lst (n:Nat) | dct (n:Nat) | rol (xs:List D)
 | xc (c:Str)
inductive O where
 | lst (xs:List D) | dk (kvs:List (Key × D)) | dt (kvs:List (List Key × D))
 | tb (x:Str)
noncomputable abbrev Store:=List O
noncomputable abbrev Env1:=List (Option D)
def SqF (K:W.Frag) (H:Hp) (a:Addr) (xs:List V):Prop:=(∃ o,H a=some (.frz o (.lst xs))) ∨
  ∃ (o:Obj) (its:Array Value) (n:Nat),K.lookup a=some o∧o.cls=.type "list"∧o.dict=none∧o.data=.seq its n∧its.size≤sizeLine∧Vals xs its.toList
theorem SqF.sq {K:W.Frag}{H:Hp}{a:Addr}{xs:List V} (h:SqF K H a xs):SqL K H a xs:=by
 rcases h with ⟨o,h⟩ | h
 ·exact .inl (.inr ⟨o,h⟩)
 ·exact .inr h
structure TF (K:W.Frag) (H H':Hp):Prop where
 t:TK K H H'
 f:∀ a xs,SqF K H a xs→SqF K H' a xs
 u:∀ a xs,H a=some (.tup xs)→H' a=some (.tup xs)
 z:∀ a o u,H a=some (.frz o u)→H' a=some (.frz o u)
theorem TF.refl (K:W.Frag) (H:Hp):TF K H H:=⟨TK.refl K H,fun _ _ h=>h,fun _ _ h=>h,fun _ _ _ h=>h⟩
theorem TF.trans {K:W.Frag}{H H1 H2:Hp} (a:TF K H H1) (b:TF K H1 H2):TF K H H2:=⟨a.t.trans b.t,fun p xs h=>b.f p xs (a.f p xs h),fun p xs h=>b.u p xs (a.u p xs h),fun p o u h=>b.z p o u (a.z p o u h)⟩
theorem tf_of {K:W.Frag}{H H':Hp}{p:Addr} (h:∀ q o,q≠p→H q=some o→H' q=some o) (nt:∀ xs,H p≠some (.tup xs)) (nf:∀ x y,H p≠some (.frz x y)):TF K H H':=by
 refine ⟨fun q ys e=>?_,fun q ys e=>?_,fun q ys e=>h _ _ (fun z=>nt _ (z▸e)) e,fun q o u e=>h _ _ (fun z=>nf _ _ (z▸e)) e⟩
 ·rcases e with (e | ⟨w,e⟩) | e
  ·exact .inl (.inl (h _ _ (fun z=>nt _ (z▸e)) e))
  ·exact .inl (.inr ⟨w,h _ _ (fun z=>nf _ _ (z▸e)) e⟩)
  ·exact .inr e
 ·rcases e with ⟨w,e⟩ | e
  ·exact .inl ⟨w,h _ _ (fun z=>nf _ _ (z▸e)) e⟩
  ·exact .inr e
theorem tf_upd {K:W.Frag}{H:Hp}{p:Addr}{u o:HO} (e:H p=some u) (nt:∀ xs,u≠.tup xs) (nf:∀ x y,u≠.frz x y):TF K H (upd H p o) :=
 tf_of (p:=p) (fun q v hq h=>by rw [upd_ne hq]; exact h) (fun xs h=>by rw [e] at h; exact nt xs (Option.some.inj h)) (fun x y h=>by rw [e] at h; exact nf x y (Option.some.inj h))
theorem tf_lst {K:W.Frag}{H:Hp}{p:Addr}{xs:List V}{o:HO} (e:H p=some (.lst xs)):TF K H (upd H p o):=tf_upd e (fun _ z=>by cases z) (fun _ _ z=>by cases z)
theorem tf_same {K:W.Frag}{H H':Hp} (h:Same H H'):TF K H H':=⟨fun p xs e=>h.tup e,fun q ys e=>by
 rcases e with ⟨w,e⟩ | e
 ·exact .inl ⟨w,h _ _ e⟩
 ·exact .inr e,fun _ _ e=>h _ _ e,fun _ _ _ e=>h _ _ e⟩
mutual
noncomputable def RV (K:W.Frag) (H:Hp) (μ:List Addr):D→V→Prop
 | .non,v=>v=.non
 | .bl b,v=>v=.bl b
 | .int i,v=>v=.int i
 | .str x,v=>v=.str x
 | .ty n,v=>v=.ty n
 | .tup xs,v=>∃ p vs,v=.ref p∧H p=some (.tup vs)∧RVs K H μ xs vs
 | .lst n,v=>∃ a,v=.ref a∧μ[n]?=some a
 | .dct n,v=>∃ a,v=.ref a∧μ[n]?=some a
 | .rol xs,v=>∃ p vs,v=.ref p∧SqF K H p vs∧RVs K H μ xs vs
 | .xc c,v=>∃ e oe C,v=.ref e∧H e=some (.frz oe (.ext fun h=>h.get? e=some oe))∧oe.cls=.ref C∧W.nsIn K mainGlobals c=some (some (.ref C))
noncomputable def RVs (K:W.Frag) (H:Hp) (μ:List Addr):List D→List V→Prop
 | [],vs=>vs=[]
 | d::ds,vs=>∃ v ws,vs=v::ws∧RV K H μ d v∧RVs K H μ ds ws
end
def RKs {κ:Type} (K:W.Frag) (H:Hp) (μ:List Addr) (kvs:List (κ × D)) (ws:List (κ × V)):Prop:=kvs.map (·.1)=ws.map (·.1)∧RVs K H μ (kvs.map (·.2)) (ws.map (·.2))
def CodeT (q:Str) (H:Hp) (cv:Value):Prop:=∃ c o vs t,cv=.ref c∧H c=some (.frz o (.ext fun h=>h.get? c=some o))∧o.data=.fields vs∧vs[1]?=some (.str q t)
noncomputable def lqual (x:Str):Str:=x ++ ".<locals>." ++ "<lambda>"
structure TabT (K:W.Frag) (q:Str) (H:Hp) (a:Addr) (x:Str) (ps:Array Value):Prop where
 tab:∃ c,W.tabIn K x=some (c,a)
 ok:TriplesOk ps.toList
 code:∀ pos cv,codeAmong pos ps.toList=some cv→CodeT q H cv
noncomputable def OR (K:W.Frag) (H:Hp) (μ:List Addr) (a:Addr):O→Prop
 | .lst xs=>∃ vs,H a=some (.lst vs)∧RVs K H μ xs vs
 | .dk kvs=>∃ ws,H a=some (.dK ws)∧RKs K H μ kvs ws
 | .dt kvs=>∃ ws,H a=some (.dT ws)∧RKs K H μ kvs ws
 | .tb x=>∃ ps,H a=some (.tbl ps)∧TabT K (lqual x) H a x ps
structure SR (K:W.Frag) (μ:List Addr) (S:Store) (H:Hp):Prop where
 len:μ.length=S.length
 nd:μ.Nodup
 obj:∀ (n:Nat) (a:Addr) (o:O),μ[n]?=some a→S[n]?=some o→OR K H μ a o
structure Step (K:W.Frag) (μ μ':List Addr) (H H':Hp):Prop where
 pre:∃ ν,μ'=μ++ν∧∀ b∈ν,H b=none
 fr:∀ b o,b∉μ→H b=some o→H' b=some o
 tk:TF K H H'
section
variable {K:W.Frag}{H H' H1 H2:Hp}{μ μ' μ1 μ2:List Addr}{S S':Store}
mutual
theorem RV.up (tk:TF K H H') (pre:∃ ν,μ'=μ++ν):∀ (d:D) (v:V),RV K H μ d v→RV K H' μ' d v
 | .non,v,h=>by simpa [RV] using h
 | .bl b,v,h=>by simpa [RV] using h
 | .int i,v,h=>by simpa [RV] using h
 | .str x,v,h=>by simpa [RV] using h
 | .ty n,v,h=>by simpa [RV] using h
 | .tup xs,v,h=>by
  unfold RV at h ⊢
  obtain ⟨p,vs,e,q,r⟩:=h
  exact ⟨p,vs,e,tk.u p vs q,RVs.up tk pre xs vs r⟩
 | .lst n,v,h=>by
  unfold RV at h ⊢
  obtain ⟨a,e,q⟩:=h
  obtain ⟨ν,rfl⟩:=pre
  exact ⟨a,e,by rw [List.getElem?_append_left (List.getElem?_eq_some_iff.mp q).1]; exact q⟩
 | .dct n,v,h=>by
  unfold RV at h ⊢
  obtain ⟨a,e,q⟩:=h
  obtain ⟨ν,rfl⟩:=pre
  exact ⟨a,e,by rw [List.getElem?_append_left (List.getElem?_eq_some_iff.mp q).1]; exact q⟩
 | .rol xs,v,h=>by
  unfold RV at h ⊢
  obtain ⟨p,vs,e,q,r⟩:=h
  exact ⟨p,vs,e,tk.f p vs q,RVs.up tk pre xs vs r⟩
 | .xc c,v,h=>by
  unfold RV at h ⊢
  obtain ⟨e,oe,C,r,q,k⟩:=h
  exact ⟨e,oe,C,r,tk.z e oe _ q,k⟩
theorem RVs.up (tk:TF K H H') (pre:∃ ν,μ'=μ++ν):∀ (ds:List D) (vs:List V),RVs K H μ ds vs→RVs K H' μ' ds vs
 | [],vs,h=>by simpa [RVs] using h
 | d::ds,vs,h=>by
  unfold RVs at h ⊢
  obtain ⟨v,ws,e,r,q⟩:=h
  exact ⟨v,ws,e,RV.up tk pre d v r,RVs.up tk pre ds ws q⟩
end
theorem RVs.len:∀ {ds:List D}{vs:List V},RVs K H μ ds vs→ds.length=vs.length
 | [],vs,h=>by unfold RVs at h; subst h; rfl
 | d::ds,vs,h=>by
  unfold RVs at h
  obtain ⟨v,ws,rfl,_,q⟩:=h
  rw [List.length_cons,List.length_cons,RVs.len q]
theorem RVs.nil:RVs K H μ [] []:=by unfold RVs; rfl
theorem RVs.cons {d:D}{v:V}{ds:List D}{vs:List V} (h:RV K H μ d v) (t:RVs K H μ ds vs):RVs K H μ (d::ds) (v::vs):=by
 unfold RVs; exact ⟨v,vs,rfl,h,t⟩
theorem RVs.get:∀ {ds:List D}{vs:List V}{i:Nat}{d:D},RVs K H μ ds vs→ds[i]?=some d→∃ v,vs[i]?=some v∧RV K H μ d v
 | [],vs,i,d,h,e=>by simp at e
 | x::ds,vs,0,d,h,e=>by
  unfold RVs at h
  obtain ⟨v,ws,rfl,r,q⟩:=h
  simp at e; subst e
  exact ⟨v,rfl,r⟩
 | x::ds,vs,i+1,d,h,e=>by
  unfold RVs at h
  obtain ⟨v,ws,rfl,r,q⟩:=h
  obtain ⟨u,e1,e2⟩:=RVs.get (i:=i) (d:=d) q (by simpa using e)
  exact ⟨u,by simpa using e1,e2⟩
theorem RVs.append:∀ {ds es:List D}{vs us:List V},RVs K H μ ds vs→RVs K H μ es us→RVs K H μ (ds++es) (vs++us)
 | [],es,vs,us,h,g=>by unfold RVs at h; subst h; exact g
 | d::ds,es,vs,us,h,g=>by
  unfold RVs at h
  obtain ⟨v,ws,rfl,r,q⟩:=h
  exact .cons r (RVs.append q g)
theorem RVs.take:∀ {ds:List D}{vs:List V} (n:Nat),RVs K H μ ds vs→RVs K H μ (ds.take n) (vs.take n)
 | _,_,0,_=>by simp; exact .nil
 | [],vs,n+1,h=>by unfold RVs at h; subst h; exact .nil
 | d::ds,vs,n+1,h=>by
  unfold RVs at h
  obtain ⟨v,ws,rfl,r,q⟩:=h
  exact .cons r (RVs.take n q)
theorem RVs.drop:∀ {ds:List D}{vs:List V} (n:Nat),RVs K H μ ds vs→RVs K H μ (ds.drop n) (vs.drop n)
 | _,_,0,h=>by simpa using h
 | [],vs,n+1,h=>by unfold RVs at h; subst h; exact .nil
 | d::ds,vs,n+1,h=>by
  unfold RVs at h
  obtain ⟨v,ws,rfl,r,q⟩:=h
  exact RVs.drop n q
theorem RVs.set {d:D}{v:V} (g:RV K H μ d v):∀ {ds:List D}{vs:List V} (n:Nat),RVs K H μ ds vs→RVs K H μ (ds.set n d) (vs.set n v)
 | [],vs,n,h=>by unfold RVs at h; subst h; exact .nil
 | x::ds,vs,0,h=>by
  unfold RVs at h
  obtain ⟨u,ws,rfl,r,q⟩:=h
  exact .cons g q
 | x::ds,vs,n+1,h=>by
  unfold RVs at h
  obtain ⟨u,ws,rfl,r,q⟩:=h
  exact .cons r (RVs.set g n q)
theorem RVs.ints {ns:List Int}:RVs K H μ (ns.map D.int) (ns.map V.int):=by
 induction ns with
 | nil=>exact .nil
 | cons a r ih=>exact .cons (by unfold RV; rfl) ih
theorem RKs.up {κ:Type} (tk:TF K H H') (pre:∃ ν,μ'=μ++ν) {kvs:List (κ × D)}{ws:List (κ × V)} (h:RKs K H μ kvs ws):RKs K H' μ' kvs ws:=⟨h.1,RVs.up tk pre _ _ h.2⟩
theorem SR.isS (sr:SR K μ S H) {a:Addr} (h:a∈μ):∃ o,H a=some o:=by
 obtain ⟨n,hn⟩:=List.getElem?_of_mem h
 have hl:n<S.length:=by rw [← sr.len]; exact (List.getElem?_eq_some_iff.mp hn).1
 have q:=sr.obj n a S[n] hn (List.getElem?_eq_getElem hl)
 revert q
 generalize S[n]=o
 intro q
 cases o with
 | lst xs=>obtain ⟨vs,e,_⟩:=q; exact ⟨_,e⟩
 | dk kvs=>obtain ⟨vs,e,_⟩:=q; exact ⟨_,e⟩
 | dt kvs=>obtain ⟨vs,e,_⟩:=q; exact ⟨_,e⟩
 | tb q'=>obtain ⟨vs,e,_⟩:=q; exact ⟨_,e⟩
theorem SR.out (sr:SR K μ S H) {a:Addr} (h:H a=none):a∉μ:=fun m=>by
 obtain ⟨o,e⟩:=sr.isS m
 rw [h] at e
 cases e
theorem Step.refl (K:W.Frag) (μ:List Addr) (H:Hp):Step K μ μ H H:=⟨⟨[],by simp,by simp⟩,fun _ _ _ h=>h,TF.refl K H⟩
theorem Step.mem (st:Step K μ μ' H H') {a:Addr} (h:a∈μ):a∈μ':=by
 obtain ⟨ν,rfl,_⟩:=st.pre
 exact List.mem_append_left _ h
theorem Step.ext (st:Step K μ μ' H H'):∃ ν,μ'=μ++ν:=let ⟨ν,e,_⟩:=st.pre; ⟨ν,e⟩
theorem Step.trans (a:Step K μ μ1 H H1) (b:Step K μ1 μ2 H1 H2) (nd:μ2.Nodup):Step K μ μ2 H H2:=by
 obtain ⟨ν,e,n1⟩:=a.pre
 obtain ⟨ν',e',n2⟩:=b.pre
 have nd':(μ++ν++ν').Nodup:=by rw [← e,← e']; exact nd
 refine ⟨⟨ν++ν',by rw [e',e,List.append_assoc],fun c hc=>?_⟩,fun c o hc h=>?_,a.tk.trans b.tk⟩
 ·rcases List.mem_append.mp hc with h | h
  ·exact n1 c h
  ·have hn:=n2 c h
   cases q:H c with
   | none=>rfl
   | some o =>
    have:c∉μ:=fun hm=>by
     have:=(List.nodup_append.mp nd').2.2 c (List.mem_append_left _ hm) c h
     exact this rfl
    rw [a.fr c o this q] at hn
    cases hn
 ·refine b.fr c o (fun hm=>?_) (a.fr c o hc h)
  rw [e] at hm
  rcases List.mem_append.mp hm with h' | h'
  ·exact hc h'
  ·rw [n1 c h'] at h; cases h
theorem OR.up (tk:TF K H H') (pre:∃ ν,μ'=μ++ν) {a:Addr} (e:H' a=H a):∀ {o:O},OR K H μ a o→OR K H' μ' a o
 | .lst xs,⟨vs,h,r⟩=>⟨vs,by rw [e]; exact h,RVs.up tk pre _ _ r⟩
 | .dk kvs,⟨ws,h,r⟩=>⟨ws,by rw [e]; exact h,r.up tk pre⟩
 | .dt kvs,⟨ws,h,r⟩=>⟨ws,by rw [e]; exact h,r.up tk pre⟩
 | .tb q,⟨ps,h,t⟩=>⟨ps,by rw [e]; exact h,t.tab,t.ok,fun pos cv z=>by
  obtain ⟨c,o,vs,t',rfl,x,y⟩:=t.code pos cv z
  exact ⟨c,o,vs,t',rfl,tk.z _ _ _ x,y⟩⟩
theorem tk_new {p:Addr}{o:HO} (h:H p=none):TF K H (upd H p o):=tf_same (same_new h o)
theorem SR.other (sr:SR K μ S H) {p:Addr}{o:HO} (h:H p=none):SR K μ S (upd H p o)∧Step K μ μ H (upd H p o):=by
 have hp:=sr.out h
 refine ⟨⟨sr.len,sr.nd,fun n a o' e1 e2=>?_⟩,⟨⟨[],by simp,by simp⟩,fun b u hb e=>?_,tk_new h⟩⟩
 ·have hm:a∈μ:=List.mem_of_getElem? e1
  have ne:a≠p:=fun z=>hp (z▸hm)
  exact (sr.obj n a o' e1 e2).up (tk_new h) ⟨[],by simp⟩ (upd_ne ne)
 ·rw [upd_ne (ne_of_none e h)]; exact e
theorem SR.push (sr:SR K μ S H) {p:Addr}{o:HO}{o':O} (h:H p=none) (ho:OR K (upd H p o) (μ++[p]) p o'):SR K (μ++[p]) (S++[o']) (upd H p o)∧Step K μ (μ++[p]) H (upd H p o):=by
 have hp:=sr.out h
 refine ⟨⟨by simp [sr.len],?_,fun n a u e1 e2=>?_⟩,⟨⟨[p],rfl,fun b hb=>?_⟩,fun b u hb e=>?_,tk_new h⟩⟩
 ·rw [List.nodup_append]
  refine ⟨sr.nd,by simp,fun a ha b hb=>?_⟩
  simp at hb; subst hb
  exact fun z=>hp (z▸ha)
 ·by_cases hn:n<μ.length
  ·rw [List.getElem?_append_left hn] at e1
   rw [List.getElem?_append_left (by rw [← sr.len]; exact hn)] at e2
   have hm:a∈μ:=List.mem_of_getElem? e1
   have ne:a≠p:=fun z=>hp (z▸hm)
   exact (sr.obj n a u e1 e2).up (tk_new h) ⟨[p],rfl⟩ (upd_ne ne)
  ·rw [List.getElem?_append_right (by omega)] at e1
   rw [List.getElem?_append_right (by rw [← sr.len]; omega)] at e2
   have h1:n - μ.length=0:=by
    have:=(List.getElem?_eq_some_iff.mp e1).1
    simp at this; omega
   rw [h1] at e1
   rw [← sr.len,h1] at e2
   simp at e1 e2
   subst e1 e2
   exact ho
 ·simp at hb; subst hb; exact h
 ·rw [upd_ne (ne_of_none e h)]; exact e
theorem SR.put (sr:SR K μ S H) {n:Nat}{p:Addr}{o u:HO}{o':O} (hn:μ[n]?=some p) (hp:H p=some u) (nt:∀ xs,u≠.tup xs) (nf:∀ x y,u≠.frz x y) (ho:OR K (upd H p o) μ p o'):SR K μ (S.set n o') (upd H p o)∧Step K μ μ H (upd H p o):=by
 have tk:TF K H (upd H p o):=tf_upd hp nt nf
 have hmem:p∈μ:=List.mem_of_getElem? hn
 refine ⟨⟨by simp [sr.len],sr.nd,fun m a w e1 e2=>?_⟩,⟨⟨[],by simp,by simp⟩,fun b w hb e=>?_,tk⟩⟩
 ·by_cases hm:m=n
  ·subst hm
   rw [hn] at e1; cases e1
   have hl:m<S.length:=by rw [← sr.len]; exact (List.getElem?_eq_some_iff.mp hn).1
   rw [List.getElem?_set_self hl] at e2
   cases e2
   exact ho
  ·rw [List.getElem?_set_ne (fun z=>hm z.symm)] at e2
   have ne:a≠p:=fun z=>by
    subst z
    exact hm ((List.getElem?_inj (List.getElem?_eq_some_iff.mp e1).1 sr.nd).mp (e1.trans hn.symm))
   exact (sr.obj m a w e1 e2).up tk ⟨[],by simp⟩ (upd_ne ne)
 ·have ne:b≠p:=fun z=>hb (z▸hmem)
  rw [upd_ne ne]; exact e
end
open PySem PySem.Spec PyProof.Rows
inductive R (α:Type) where
 | bad | ok (a:α) (S:Store) | er (c:Str) (S:Store)
noncomputable abbrev M (α:Type):=Store→R α
noncomputable def bnd {α β:Type} (m:M α) (f:α→M β):M β:=fun S=>match m S with
 | .bad=>.bad
 | .er c S'=>.er c S'
 | .ok a S'=>f a S'
noncomputable def ret {α:Type} (a:α):M α:=fun S=>.ok a S
noncomputable def bad {α:Type}:M α:=fun _=>.bad
inductive BndOk {α β:Type} (m:M α) (f:α→M β) (S:Store) (b:β) (S2:Store):Prop
 | mk (a:α) (S1:Store) (e:m S=.ok a S1) (g:f a S1=.ok b S2)
theorem bnd_ok {α β:Type}{m:M α}{f:α→M β}{S S2:Store}{b:β} (h:bnd m f S=.ok b S2):BndOk m f S b S2:=by
 unfold bnd at h
 cases e:m S with
 | bad=>rw [e] at h; cases h
 | er c S'=>rw [e] at h; cases h
 | ok a S'=>rw [e] at h; exact ⟨a,S',e,h⟩
theorem ret_ok {α:Type}{a b:α}{S S':Store} (h:ret a S=.ok b S'):b=a∧S'=S:=by
 unfold ret at h; cases h; exact ⟨rfl,rfl⟩
noncomputable abbrev C:=Env1→M D
noncomputable abbrev CT:=Env1→M Bool
noncomputable abbrev CA:=Env1→M (List D)
def RE (K:W.Frag) (H:Hp) (μ:List Addr) (ρ:Env1) (σ:St):Prop:=ρ.length=σ.length∧∀ (i:Nat) (d:D),ρ[i]?=some (some d)→∃ v,σ[i]?=some (some v)∧RV K H μ d v
section
variable {K:W.Frag}{H H':Hp}{μ μ':List Addr}{ρ:Env1}{σ:St}
theorem RE.up (h:RE K H μ ρ σ) (st:Step K μ μ' H H'):RE K H' μ' ρ σ:=⟨h.1,fun i d e=>let ⟨v,q,r⟩:=h.2 i d e; ⟨v,q,RV.up st.tk st.ext d v r⟩⟩
theorem RE.set (h:RE K H μ ρ σ) {d:D}{v:V} (r:RV K H μ d v) (i:Nat):RE K H μ (ρ.set i (some d)) (σ.set i (some v)):=by
 refine ⟨by simp [h.1],fun j d' e=>?_⟩
 by_cases hj:i=j
 ·subst hj
  have hl:i<ρ.length:=by
   have:=(List.getElem?_eq_some_iff.mp e).1
   simpa using this
  rw [List.getElem?_set_self hl] at e
  cases e
  exact ⟨v,by rw [List.getElem?_set_self (by rw [← h.1]; exact hl)],r⟩
 ·rw [List.getElem?_set_ne hj] at e ⊢
  exact h.2 j d' e
end
def Yld (K:W.Frag) (μ:List Addr) (H:Hp) (d:D) (S':Store) (Q:VK):Prop:=∀ v H' μ',SR K μ' S' H'→Step K μ μ' H H'→RV K H' μ' d v→Q v H'
def YldA (K:W.Frag) (μ:List Addr) (H:Hp) (ds:List D) (S':Store) (Q:List V→Hp→Prop):Prop:=∀ vs H' μ',SR K μ' S' H'→Step K μ μ' H H'→RVs K H' μ' ds vs→Q vs H'
def YldT (K:W.Frag) (μ:List Addr) (H:Hp) (b:Bool) (S':Store) (Q:Bool→Hp→Prop):Prop:=∀ H' μ',SR K μ' S' H'→Step K μ μ' H H'→Q b H'
inductive tOf (K:W.Frag) (c:C) (σ:St) (H:Hp) (Q:VK):Prop
 | mk (μ:List Addr) (ρ:Env1) (S:Store) (d:D) (S':Store) (sr:SR K μ S H) (re:RE K H μ ρ σ) (e:c ρ S=.ok d S') (y:Yld K μ H d S' Q)
inductive tOfA (K:W.Frag) (c:CA) (σ:St) (H:Hp) (Q:List V→Hp→Prop):Prop
 | mk (μ:List Addr) (ρ:Env1) (S:Store) (d:List D) (S':Store) (sr:SR K μ S H) (re:RE K H μ ρ σ) (e:c ρ S=.ok d S') (y:YldA K μ H d S' Q)
inductive tOfT (K:W.Frag) (c:CT) (σ:St) (H:Hp) (Q:Bool→Hp→Prop):Prop
 | mk (μ:List Addr) (ρ:Env1) (S:Store) (d:Bool) (S':Store) (sr:SR K μ S H) (re:RE K H μ ρ σ) (e:c ρ S=.ok d S') (y:YldT K μ H d S' Q)
theorem Yld.self {K:W.Frag}{μ:List Addr}{H:Hp}{d:D}{S:Store}{Q:VK} (h:Yld K μ H d S Q) (sr:SR K μ S H) {v:V} (r:RV K H μ d v):Q v H:=h v H μ sr (Step.refl K μ H) r
theorem Yld.shift {K:W.Frag}{μ μ1:List Addr}{H H1:Hp}{d:D}{S:Store}{Q:VK} (h:Yld K μ H d S Q) (st:Step K μ μ1 H H1):Yld K μ1 H1 d S Q:=fun v H' μ' sr s2 r=>h v H' μ' sr (st.trans s2 sr.nd) r
theorem YldT.shift {K:W.Frag}{μ μ1:List Addr}{H H1:Hp}{d:Bool}{S:Store}{Q:Bool→Hp→Prop} (h:YldT K μ H d S Q) (st:Step K μ μ1 H H1):YldT K μ1 H1 d S Q:=fun H' μ' sr s2=>h H' μ' sr (st.trans s2 sr.nd)
theorem PE.weak {X:Cx}{e:Expr}{t t':TE} (h:PE X e t) (w:∀ σ H Q,t' σ H Q→t σ H Q):PE X e t':=fun pins s σ H Q I q=>h pins s σ H Q I (w σ H Q q)
theorem PT.weak {X:Cx}{e:Expr}{t t':TT} (h:PT X e t) (w:∀ σ H Q,t' σ H Q→t σ H Q):PT X e t':=fun pins s σ H Q I q=>h pins s σ H Q I (w σ H Q q)
theorem PW.weak {X:Cx}{e:Expr}{t t':TT} (h:PW X e t) (w:∀ σ H Q,t' σ H Q→t σ H Q):PW X e t':=fun wh pins s σ H Q I q=>h wh pins s σ H Q I (w σ H Q q)
theorem PA.weak {X:Cx}{e:List Expr}{t t':TA} (h:PA X e t) (w:∀ σ H Q,t' σ H Q→t σ H Q):PA X e t':=fun pos pins s σ H Q I q=>h pos pins s σ H Q I (w σ H Q q)
theorem PS.weak {X:Cx}{e:Stmt}{t t':TS} (h:PS X e t) (w:∀ D σ H,t' D σ H→t D σ H):PS X e t':=fun pins s σ H D I q=>h pins s σ H D I (w D σ H q)
theorem PSs.weak {X:Cx}{e:List Stmt}{t t':TS} (h:PSs X e t) (w:∀ D σ H,t' D σ H→t D σ H):PSs X e t':=fun pins s σ H D I q=>h pins s σ H D I (w D σ H q)
noncomputable def rAny (X:Cx) (f:Value→Value→Sem Value):R2:=fun v u H Q=>∃ r,OpR X f r∧r v u H Q
theorem opAny {X:Cx}{f:Value→Value→Sem Value}:OpR X f (rAny X f):=fun pins s σ H x y v u Q I rx ry ⟨r,ho,q⟩=>ho pins s σ H x y v u Q I rx ry q
noncomputable def uAny (X:Cx) (f:Value→Sem Value):V→Hp→VK→Prop:=fun v H Q=>∃ r,UnR X f r∧r v H Q
theorem unAny {X:Cx}{f:Value→Sem Value}:UnR X f (uAny X f):=fun pins s σ H x v Q I rx ⟨r,ho,q⟩=>ho pins s σ H x v Q I rx q
noncomputable def cAny (X:Cx) (f:Value):List V→Hp→VK→Prop:=fun vs H Q=>∃ r,CallR X f r∧r vs H Q
theorem callAny {X:Cx}{f:Value}:CallR X f (cAny X f):=fun pins s σ H x v Q I rx ⟨r,ho,q⟩=>ho pins s σ H x v Q I rx q
noncomputable def ixAnyR (X:Cx):R2:=fun v u H Q=>∃ r,IxR X r∧r v u H Q
theorem ixAny {X:Cx}:IxR X (ixAnyR X):=fun va sl pins s σ H x y v u Q I rx ry ⟨r,ho,q⟩ hs=>ho va sl pins s σ H x y v u Q I rx ry q hs
noncomputable def slAnyR (X:Cx):V→Option Int→Option Int→Hp→VK→Prop:=fun v lo hi H Q=>∃ r,SlR X r∧r v lo hi H Q
theorem slAny {X:Cx}:SlR X (slAnyR X):=fun pins s σ H x v vl vu lo hi sl Q I rx a b c ⟨r,ho,q⟩=>ho pins s σ H x v vl vu lo hi sl Q I rx a b c q
noncomputable def mtAnyR (X:Cx) (id:String):V→List V→Hp→VK→Prop:=fun v vs H Q=>∃ r,MtR X id r∧r v vs H Q
theorem mtAny {X:Cx}{id:String}:MtR X id (mtAnyR X id):=fun pins s σ H x xs v us Q I rx rs ⟨r,ho,q⟩=>ho pins s σ H x xs v us Q I rx rs q
noncomputable def setAnyR (X:Cx):TSet:=fun o i v H Q=>∃ r,PSet X r∧r o i v H Q
theorem setAny {X:Cx}:PSet X (setAnyR X):=fun pins s σ H o i v ov iv u Q I r1 r2 r3 ⟨r,ho,q⟩=>ho pins s σ H o i v ov iv u Q I r1 r2 r3 q
noncomputable def cVar (i:Nat):C:=fun ρ S=>match ρ[i]? with
 | some (some d)=>.ok d S
 | _=>.bad
noncomputable def cCon (d:D):C:=fun _ S=>.ok d S
noncomputable def cBin (o:D→D→M D) (a b:C):C:=fun ρ=>bnd (a ρ) fun x=>bnd (b ρ) fun y=>o x y
noncomputable def cUn (o:D→M D) (a:C):C:=fun ρ=>bnd (a ρ) o
noncomputable def cArgs:List C→CA
 | []=>fun _=>ret []
 | c::cs=>fun ρ=>bnd (c ρ) fun x=>bnd (cArgs cs ρ) fun xs=>ret (x::xs)
noncomputable def cApp (o:List D→M D) (a:CA):C:=fun ρ=>bnd (a ρ) o
noncomputable def cTup (a:CA):C:=cApp (fun xs=>ret (.tup xs)) a
noncomputable def cLst (a:CA):C:=cApp (fun xs S=>.ok (.lst S.length) (S++[.lst xs])) a
noncomputable def cIf (t:CT) (a b:C):C:=fun ρ=>bnd (t ρ) fun k=>if k then a ρ else b ρ
noncomputable def cBool (a:C):CT:=fun ρ=>bnd (a ρ) fun x=>match x with
 | .bl b=>ret b
 | _=>bad
noncomputable def cAndV (a b:C):C:=fun ρ=>bnd (cBool a ρ) fun k=>if k then b ρ else ret (.bl false)
noncomputable def cOrV (a b:C):C:=fun ρ=>bnd (cBool a ρ) fun k=>if k then ret (.bl true) else b ρ
noncomputable def cNotV (a:C):C:=fun ρ=>bnd (cBool a ρ) fun k=>ret (.bl (!k))
noncomputable def cAndT (a b:CT):CT:=fun ρ=>bnd (a ρ) fun k=>if k then b ρ else ret false
noncomputable def cOrT (a b:CT):CT:=fun ρ=>bnd (a ρ) fun k=>if k then ret true else b ρ
noncomputable def cNotT (a:CT):CT:=fun ρ=>bnd (a ρ) fun k=>ret (!k)
noncomputable def dB (x:D):M Bool:=match x with
 | .bl b=>ret b
 | _=>bad
noncomputable def cChain (o o':D→D→M D) (a b c:C):C:=fun ρ=>bnd (a ρ) fun x=>bnd (b ρ) fun y=>bnd (o x y) fun z=>bnd (dB z) fun k=>if k then bnd (c ρ) fun w=>o' y w else ret (.bl false)
noncomputable def cChain3 (o o' o2:D→D→M D) (a b c d:C):CT:=fun ρ=>bnd (a ρ) fun x=>bnd (b ρ) fun y=>bnd (o x y) fun z=>bnd (dB z) fun k =>
 if k then bnd (c ρ) fun w=>bnd (o' y w) fun z2=>bnd (dB z2) fun k2=>if k2 then bnd (d ρ) fun w2=>bnd (o2 w w2) dB else ret false else ret false
section
variable {X:Cx}{a b c d:Expr}{ca cb cc cd:C}{pos:Pos}
theorem se_var {i:Nat}{x:Str} (h:PE X (.Name x pos) (tVar i)):PE X (.Name x pos) (tOf X.K (cVar i)):=h.weak fun σ H Q ⟨μ,ρ,S,d,S',sr,re,e,y⟩=>by
 unfold cVar at e
 split at e
 ·rename_i d' hd
  cases e
  obtain ⟨v,q,r⟩:=re.2 i _ hd
  exact ⟨v,q,y.self sr r⟩
 ·cases e
theorem se_con {e:Expr}{v:V}{d:D} (h:PE X e (tC v)) (hd:∀ K H μ,RV K H μ d v):PE X e (tOf X.K (cCon d)):=h.weak fun σ H Q ⟨μ,ρ,S,d',S',sr,re,e,y⟩=>by
 unfold cCon at e
 cases e
 exact y.self sr (hd _ _ _)
def OpS (K:W.Frag) (r:R2) (o:D→D→M D):Prop:=∀ x y S d S' H μ v u Q,o x y S=.ok d S'→SR K μ S H→RV K H μ x v→RV K H μ y u→Yld K μ H d S' Q→r v u H Q
theorem of_bin {r:R2}{o:D→D→M D} (ho:OpS X.K r o):∀ σ H Q,tOf X.K (cBin o ca cb) σ H Q→tOp r (tOf X.K ca) (tOf X.K cb) σ H Q:=by
 rintro σ H Q ⟨μ,ρ,S,d,S',sr,re,e,y⟩
 obtain ⟨x,S1,e1,e⟩:=bnd_ok e
 obtain ⟨z,S2,e2,e⟩:=bnd_ok e
 refine ⟨μ,ρ,S,x,S1,sr,re,e1,fun v H1 μ1 sr1 st1 r1=>⟨μ1,ρ,S1,z,S2,sr1,re.up st1,e2,fun u H2 μ2 sr2 st2 r2=>?_⟩⟩
 exact ho x z S2 d S' H2 μ2 v u Q e sr2 (RV.up st2.tk st2.ext _ _ r1) r2 (y.shift (st1.trans st2 sr2.nd))
theorem se_bin {op:Operator}{o:D→D→M D} (ho:OpS X.K (rAny X (binaryOp op)) o) (ha:PE X a (tOf X.K ca)) (hb:PE X b (tOf X.K cb)):PE X (.BinOp a op b pos) (tOf X.K (cBin o ca cb)):=(pe_op opAny ha hb).weak (of_bin ho)
theorem se_cmp {op:CmpOp}{o:D→D→M D} (ho:OpS X.K (rAny X (compareOp op)) o) (ha:PE X a (tOf X.K ca)) (hb:PE X b (tOf X.K cb)) (hm:behindInMarks op b=false):PE X (.Compare a [op] [b] pos) (tOf X.K (cBin o ca cb)):=(pe_cmpR opAny ha hb hm).weak (of_bin ho)
theorem of_test {t:TE}{c:C} (h:∀ σ H Q,tOf X.K c σ H Q→t σ H Q):∀ σ H Q,tOfT X.K (cBool c) σ H Q→tTest t σ H Q:=by
 rintro σ H Q ⟨μ,ρ,S,d,S',sr,re,e,y⟩
 obtain ⟨x,S1,e1,e⟩:=bnd_ok e
 refine h σ H _ ⟨μ,ρ,S,x,S1,sr,re,e1,fun v H1 μ1 sr1 st1 r1=>?_⟩
 cases x with
 | bl k =>
  obtain ⟨rfl,rfl⟩:=ret_ok e
  unfold RV at r1
  exact ⟨_,r1,y H1 μ1 sr1 st1⟩
 | _=>cases e
theorem st_cmp {op:CmpOp}{o:D→D→M D} (ho:OpS X.K (rAny X (compareOp op)) o) (ha:PE X a (tOf X.K ca)) (hb:PE X b (tOf X.K cb)) (hm:behindInMarks op b=false):PT X (.Compare a [op] [b] pos) (tOfT X.K (cBool (cBin o ca cb))):=(pt_cmpR opAny ha hb hm).weak (of_test (of_bin ho))
theorem of_chain {r r':R2}{o o':D→D→M D} (ho:OpS X.K r o) (ho':OpS X.K r' o'):∀ σ H Q,tOf X.K (cChain o o' ca cb cc) σ H Q→tChain r r' (tOf X.K ca) (tOf X.K cb) (tOf X.K cc) σ H Q:=by
 rintro σ H Q ⟨μ,ρ,S,d,S',sr,re,e,y⟩
 obtain ⟨x,S1,e1,f1⟩:=bnd_ok e
 obtain ⟨z,S2,e2,f2⟩:=bnd_ok f1
 obtain ⟨t,S3,e3,f3⟩:=bnd_ok f2
 obtain ⟨k,S4,e4,f4⟩:=bnd_ok f3
 refine ⟨μ,ρ,S,x,S1,sr,re,e1,fun v H1 μ1 sr1 st1 r1=>⟨μ1,ρ,S1,z,S2,sr1,re.up st1,e2,fun u H2 μ2 sr2 st2 r2=>?_⟩⟩
 have st12:=st1.trans st2 sr2.nd
 refine ho x z S2 t S3 H2 μ2 v u _ e3 sr2 (RV.up st2.tk st2.ext _ _ r1) r2 fun v3 H3 μ3 sr3 st3 r3=>?_
 have st13:=st12.trans st3 sr3.nd
 cases t with
 | bl k' =>
  obtain ⟨rfl,rfl⟩:=ret_ok e4
  unfold RV at r3
  refine ⟨_,r3,?_⟩
  cases k with
  | true =>
   rw [if_pos rfl] at f4 ⊢
   obtain ⟨w,S5,e5,f5⟩:=bnd_ok f4
   refine ⟨μ3,ρ,_,w,S5,sr3,re.up st13,e5,fun v5 H5 μ5 sr5 st5 r5=>?_⟩
   exact ho' z w S5 d S' H5 μ5 u v5 Q f5 sr5 (RV.up st5.tk st5.ext _ _ (RV.up st3.tk st3.ext _ _ r2)) r5 (y.shift (st13.trans st5 sr5.nd))
  | false =>
   rw [if_neg Bool.false_ne_true] at f4 ⊢
   obtain ⟨rfl,rfl⟩:=ret_ok f4
   exact y _ H3 μ3 sr3 st13 (by unfold RV; rfl)
 | _=>cases e4
theorem se_chain {op op':CmpOp}{o o':D→D→M D} (ho:OpS X.K (rAny X (compareOp op)) o) (ho':OpS X.K (rAny X (compareOp op')) o') (ha:PE X a (tOf X.K ca)) (hb:PE X b (tOf X.K cb)) (hc:PE X c (tOf X.K cc)) (hm:lastMarks [op,op'] [b,c]=false) :
  PE X (.Compare a [op,op'] [b,c] pos) (tOf X.K (cChain o o' ca cb cc)):=(pe_chain opAny opAny ha hb hc hm).weak (of_chain ho ho')
theorem st_chain {op op':CmpOp}{o o':D→D→M D} (ho:OpS X.K (rAny X (compareOp op)) o) (ho':OpS X.K (rAny X (compareOp op')) o') (ha:PE X a (tOf X.K ca)) (hb:PE X b (tOf X.K cb)) (hc:PE X c (tOf X.K cc)) (hm:lastMarks [op,op'] [b,c]=false) :
  PT X (.Compare a [op,op'] [b,c] pos) (tOfT X.K (cBool (cChain o o' ca cb cc))):=(pt_chain opAny opAny ha hb hc hm).weak (of_test (of_chain ho ho'))
theorem st_chain3 {op op' op2:CmpOp}{o o' o2:D→D→M D} (ho:OpS X.K (rAny X (compareOp op)) o) (ho':OpS X.K (rAny X (compareOp op')) o') (ho2:OpS X.K (rAny X (compareOp op2)) o2) (ha:PE X a (tOf X.K ca)) (hb:PE X b (tOf X.K cb)) (hc:PE X c (tOf X.K cc)) (hd:PE X d (tOf X.K cd))
  (hm:lastMarks [op,op',op2] [b,c,d]=false):PT X (.Compare a [op,op',op2] [b,c,d] pos) (tOfT X.K (cChain3 o o' o2 ca cb cc cd)):=by
 refine (pt_chain3 opAny opAny opAny ha hb hc hd hm).weak ?_
 rintro σ H Q ⟨μ,ρ,S,d,S',sr,re,e,y⟩
 obtain ⟨x,S1,e1,f1⟩:=bnd_ok e
 obtain ⟨z,S2,e2,f2⟩:=bnd_ok f1
 obtain ⟨t,S3,e3,f3⟩:=bnd_ok f2
 obtain ⟨k,S4,e4,f4⟩:=bnd_ok f3
 refine ⟨μ,ρ,S,x,S1,sr,re,e1,fun v H1 μ1 sr1 st1 r1=>⟨μ1,ρ,S1,z,S2,sr1,re.up st1,e2,fun u H2 μ2 sr2 st2 r2=>?_⟩⟩
 have st12:=st1.trans st2 sr2.nd
 refine ho x z S2 t S3 H2 μ2 v u _ e3 sr2 (RV.up st2.tk st2.ext _ _ r1) r2 fun v3 H3 μ3 sr3 st3 r3=>?_
 have st13:=st12.trans st3 sr3.nd
 cases t with
 | bl k' =>
  obtain ⟨rfl,rfl⟩:=ret_ok e4
  unfold RV at r3
  refine ⟨_,r3,?_⟩
  cases k with
  | true =>
   rw [if_pos rfl] at f4 ⊢
   obtain ⟨w,S5,e5,f5⟩:=bnd_ok f4
   obtain ⟨t2,S6,e6,f6⟩:=bnd_ok f5
   obtain ⟨k2,S7,e7,f7⟩:=bnd_ok f6
   refine ⟨μ3,ρ,_,w,S5,sr3,re.up st13,e5,fun v5 H5 μ5 sr5 st5 r5=>?_⟩
   have st15:=st13.trans st5 sr5.nd
   refine ho' z w S5 t2 S6 H5 μ5 u v5 _ e6 sr5 (RV.up st5.tk st5.ext _ _ (RV.up st3.tk st3.ext _ _ r2)) r5 fun v6 H6 μ6 sr6 st6 r6=>?_
   have st16:=st15.trans st6 sr6.nd
   cases t2 with
   | bl k3 =>
    obtain ⟨rfl,rfl⟩:=ret_ok e7
    unfold RV at r6
    refine ⟨_,r6,?_⟩
    cases k2 with
    | true =>
     rw [if_pos rfl] at f7 ⊢
     obtain ⟨w2,S8,e8,f8⟩:=bnd_ok f7
     obtain ⟨t3,S9,e9,f9⟩:=bnd_ok f8
     refine ⟨μ6,ρ,_,w2,S8,sr6,re.up st16,e8,fun v8 H8 μ8 sr8 st8 r8=>?_⟩
     have st18:=st16.trans st8 sr8.nd
     refine ho2 w w2 S8 t3 S9 H8 μ8 v5 v8 _ e9 sr8 (RV.up st8.tk st8.ext _ _ (RV.up st6.tk st6.ext _ _ r5)) r8 fun v9 H9 μ9 sr9 st9 r9=>?_
     cases t3 with
     | bl k4 =>
      obtain ⟨rfl,rfl⟩:=ret_ok f9
      unfold RV at r9
      exact ⟨_,r9,y H9 μ9 sr9 (st18.trans st9 sr9.nd)⟩
     | _=>cases f9
    | false =>
     rw [if_neg Bool.false_ne_true] at f7 ⊢
     obtain ⟨rfl,rfl⟩:=ret_ok f7
     exact y H6 μ6 sr6 st16
   | _=>cases e7
  | false =>
   rw [if_neg Bool.false_ne_true] at f4 ⊢
   obtain ⟨rfl,rfl⟩:=ret_ok f4
   exact y H3 μ3 sr3 st13
 | _=>cases e4
def UnS (K:W.Frag) (r:V→Hp→VK→Prop) (o:D→M D):Prop:=∀ x S d S' H μ v Q,o x S=.ok d S'→SR K μ S H→RV K H μ x v→Yld K μ H d S' Q→r v H Q
theorem se_un {op:UnaryOp}{o:D→M D} (ho:UnS X.K (uAny X (unaryOp op)) o) (ha:PE X a (tOf X.K ca)):PE X (.UnaryOp op a pos) (tOf X.K (cUn o ca)):=(pe_un unAny ha).weak (by
 rintro σ H Q ⟨μ,ρ,S,d,S',sr,re,e,y⟩
 obtain ⟨x,S1,e1,e⟩:=bnd_ok e
 exact ⟨μ,ρ,S,x,S1,sr,re,e1,fun v H1 μ1 sr1 st1 r1=>ho x S1 d S' H1 μ1 v Q e sr1 r1 (y.shift st1)⟩)
theorem of_bool {σ:St}{H:Hp}{μ:List Addr}{ρ:Env1}{S S':Store}{k:Bool} (sr:SR X.K μ S H) (re:RE X.K H μ ρ σ) (e:cBool ca ρ S=.ok k S') {Q:VK} (h:∀ H1 μ1,SR X.K μ1 S' H1→Step X.K μ μ1 H H1→Q (.bl k) H1):tOf X.K ca σ H Q:=by
 obtain ⟨x,S1,e1,e⟩:=bnd_ok e
 refine ⟨μ,ρ,S,x,S1,sr,re,e1,fun v H1 μ1 sr1 st1 r1=>?_⟩
 cases x with
 | bl k' =>
  obtain ⟨rfl,rfl⟩:=ret_ok e
  unfold RV at r1
  subst r1
  exact h H1 μ1 sr1 st1
 | _=>cases e
theorem se_and {rest:List Expr} (ha:PE X a (tOf X.K ca)) (hb:PE X (.BoolOp .And (b::rest) pos) (tOf X.K cb)):PE X (.BoolOp .And (a::b::rest) pos) (tOf X.K (cAndV ca cb)):=(pe_and ha hb).weak (by
 rintro σ H Q ⟨μ,ρ,S,d,S',sr,re,e,y⟩
 obtain ⟨k,S1,e1,e⟩:=bnd_ok e
 refine of_bool sr re e1 fun H1 μ1 sr1 st1=>⟨k,rfl,?_⟩
 cases k with
 | true=>rw [if_pos rfl] at e ⊢; exact ⟨μ1,ρ,S1,d,S',sr1,re.up st1,e,y.shift st1⟩
 | false=>rw [if_neg Bool.false_ne_true] at e ⊢; obtain ⟨rfl,rfl⟩:=ret_ok e; exact y _ H1 μ1 sr1 st1 (by unfold RV; rfl))
theorem se_or {rest:List Expr} (ha:PE X a (tOf X.K ca)) (hb:PE X (.BoolOp .Or (b::rest) pos) (tOf X.K cb)):PE X (.BoolOp .Or (a::b::rest) pos) (tOf X.K (cOrV ca cb)):=(pe_or ha hb).weak (by
 rintro σ H Q ⟨μ,ρ,S,d,S',sr,re,e,y⟩
 obtain ⟨k,S1,e1,e⟩:=bnd_ok e
 refine of_bool sr re e1 fun H1 μ1 sr1 st1=>⟨k,rfl,?_⟩
 cases k with
 | false=>rw [if_neg Bool.false_ne_true] at e ⊢; exact ⟨μ1,ρ,S1,d,S',sr1,re.up st1,e,y.shift st1⟩
 | true=>rw [if_pos rfl] at e ⊢; obtain ⟨rfl,rfl⟩:=ret_ok e; exact y _ H1 μ1 sr1 st1 (by unfold RV; rfl))
theorem se_not (ha:PE X a (tOf X.K ca)):PE X (.UnaryOp .Not a pos) (tOf X.K (cNotV ca)):=(pe_not ha).weak (by
 rintro σ H Q ⟨μ,ρ,S,d,S',sr,re,e,y⟩
 obtain ⟨k,S1,e1,e⟩:=bnd_ok e
 obtain ⟨rfl,rfl⟩:=ret_ok e
 exact of_bool sr re e1 fun H1 μ1 sr1 st1=>⟨k,rfl,y _ H1 μ1 sr1 st1 (by unfold RV; rfl)⟩)
theorem se_ifExp {t:Expr}{ct:CT} (ht:PT X t (tOfT X.K ct)) (ha:PE X a (tOf X.K ca)) (hb:PE X b (tOf X.K cb)):PE X (.IfExp t a b pos) (tOf X.K (cIf ct ca cb)):=(pe_ifExp ht ha hb).weak (by
 rintro σ H Q ⟨μ,ρ,S,d,S',sr,re,e,y⟩
 obtain ⟨k,S1,e1,e⟩:=bnd_ok e
 refine ⟨μ,ρ,S,k,S1,sr,re,e1,fun H1 μ1 sr1 st1=>?_⟩
 cases k with
 | true=>rw [if_pos rfl] at e ⊢; exact ⟨μ1,ρ,S1,d,S',sr1,re.up st1,e,y.shift st1⟩
 | false=>rw [if_neg Bool.false_ne_true] at e ⊢; exact ⟨μ1,ρ,S1,d,S',sr1,re.up st1,e,y.shift st1⟩)
variable {ta tb:CT}
theorem sw_and {rest:List Expr} (ha:PT X a (tOfT X.K ta)) (hb:PW X (.BoolOp .And (b::rest) pos) (tOfT X.K tb)):PW X (.BoolOp .And (a::b::rest) pos) (tOfT X.K (cAndT ta tb)):=(pw_and ha hb).weak (by
 rintro σ H Q ⟨μ,ρ,S,d,S',sr,re,e,y⟩
 obtain ⟨k,S1,e1,e⟩:=bnd_ok e
 refine ⟨μ,ρ,S,k,S1,sr,re,e1,fun H1 μ1 sr1 st1=>?_⟩
 cases k with
 | true=>rw [if_pos rfl] at e ⊢; exact ⟨μ1,ρ,S1,d,S',sr1,re.up st1,e,y.shift st1⟩
 | false=>rw [if_neg Bool.false_ne_true] at e ⊢; obtain ⟨rfl,rfl⟩:=ret_ok e; exact y H1 μ1 sr1 st1)
theorem sw_or {rest:List Expr} (ha:PT X a (tOfT X.K ta)) (hb:PW X (.BoolOp .Or (b::rest) pos) (tOfT X.K tb)):PW X (.BoolOp .Or (a::b::rest) pos) (tOfT X.K (cOrT ta tb)):=(pw_or ha hb).weak (by
 rintro σ H Q ⟨μ,ρ,S,d,S',sr,re,e,y⟩
 obtain ⟨k,S1,e1,e⟩:=bnd_ok e
 refine ⟨μ,ρ,S,k,S1,sr,re,e1,fun H1 μ1 sr1 st1=>?_⟩
 cases k with
 | false=>rw [if_neg Bool.false_ne_true] at e ⊢; exact ⟨μ1,ρ,S1,d,S',sr1,re.up st1,e,y.shift st1⟩
 | true=>rw [if_pos rfl] at e ⊢; obtain ⟨rfl,rfl⟩:=ret_ok e; exact y H1 μ1 sr1 st1)
theorem st_not (ha:PT X a (tOfT X.K ta)):PT X (.UnaryOp .Not a pos) (tOfT X.K (cNotT ta)):=(pt_not ha).weak (by
 rintro σ H Q ⟨μ,ρ,S,d,S',sr,re,e,y⟩
 obtain ⟨k,S1,e1,e⟩:=bnd_ok e
 obtain ⟨rfl,rfl⟩:=ret_ok e
 exact ⟨μ,ρ,S,k,_,sr,re,e1,fun H1 μ1 sr1 st1=>y H1 μ1 sr1 st1⟩)
noncomputable def dTru (x:D):M Bool:=fun S=>match x with
 | .non=>.ok false S
 | .bl b=>.ok b S
 | .int i=>.ok (i != 0) S
 | .str y=>if y.length≤sizeLine then .ok ((y.length:Int) != 0) S else .bad
 | .tup xs=>.ok (!xs.isEmpty) S
 | .lst n=>match S[n]? with
  | some (.lst xs)=>.ok (!xs.isEmpty) S
  | _=>.bad
 | .dct n=>match S[n]? with
  | some (.dk kvs)=>.ok (!kvs.isEmpty) S
  | _=>.bad
 | .ty _=>.bad
 | .rol xs=>.ok (!xs.isEmpty) S
 | .xc _=>.bad
noncomputable def cTru (a:C):CT:=fun ρ=>bnd (a ρ) dTru
theorem emp_of {K:W.Frag}{H:Hp}{μ:List Addr}{ds:List D}{vs:List V} (h:RVs K H μ ds vs):ds.isEmpty=vs.isEmpty:=by
 cases ds with
 | nil=>unfold RVs at h; subst h; rfl
 | cons d ds=>unfold RVs at h; obtain ⟨v,ws,rfl,_⟩:=h; rfl
theorem SR.get {K:W.Frag}{H:Hp}{μ:List Addr}{S:Store} (sr:SR K μ S H) {n:Nat}{a:Addr}{o:O} (h:μ[n]?=some a) (ho:S[n]?=some o):OR K H μ a o:=sr.obj n a o h ho
theorem dTru_ok {K:W.Frag}{H:Hp}{μ:List Addr}{S S':Store}{x:D}{v:V}{k:Bool} (e:dTru x S=.ok k S') (sr:SR K μ S H) (r:RV K H μ x v):S'=S∧TruV K v H k:=by
 unfold dTru at e
 cases x with
 | non=>cases e; unfold RV at r; subst r; exact ⟨rfl,rfl⟩
 | bl b=>cases e; unfold RV at r; subst r; exact ⟨rfl,rfl⟩
 | int i=>cases e; unfold RV at r; subst r; exact ⟨rfl,rfl⟩
 | str y =>
  unfold RV at r; subst r
  dsimp only at e
  split at e
  ·rename_i hl; cases e; exact ⟨rfl,hl,rfl⟩
  ·cases e
 | tup xs =>
  cases e; unfold RV at r; obtain ⟨p,vs,rfl,q,rr⟩:=r
  exact ⟨rfl,.inr (.inl ⟨vs,SqT.of q,by rw [emp_of rr]⟩)⟩
 | lst n =>
  unfold RV at r; obtain ⟨a,rfl,hm⟩:=r
  dsimp only at e
  split at e
  ·rename_i xs ho
   cases e
   obtain ⟨vs,hq,rr⟩:=sr.get hm ho
   exact ⟨rfl,.inl ⟨vs,SqL.of hq,by rw [emp_of rr]⟩⟩
  ·cases e
 | dct n =>
  unfold RV at r; obtain ⟨a,rfl,hm⟩:=r
  dsimp only at e
  split at e
  ·rename_i kvs ho
   cases e
   obtain ⟨ws,hq,rr⟩:=sr.get hm ho
   refine ⟨rfl,.inr (.inr ⟨ws,hq,?_⟩)⟩
   have:=emp_of rr.2
   rw [List.isEmpty_map,List.isEmpty_map] at this
   rw [this]
  ·cases e
 | ty _=>cases e
 | rol xs =>
  cases e; unfold RV at r; obtain ⟨p,vs,rfl,q,rr⟩:=r
  exact ⟨rfl,.inl ⟨vs,q.sq,by rw [emp_of rr]⟩⟩
 | xc _=>cases e
theorem st_tru (ha:PE X a (tOf X.K ca)) (he:∀ whole,isTrue a X.env whole=(do let v ← whole; standAt a.pos; holding [v] (truthy v))):PT X a (tOfT X.K (cTru ca)):=(pt_truth ha he).weak (by
 rintro σ H Q ⟨μ,ρ,S,d,S',sr,re,e,y⟩
 obtain ⟨x,S1,e1,e⟩:=bnd_ok e
 refine ⟨μ,ρ,S,x,S1,sr,re,e1,fun v H1 μ1 sr1 st1 r1=>?_⟩
 obtain ⟨rfl,tv⟩:=dTru_ok e sr1 r1
 exact ⟨d,tv,y H1 μ1 sr1 st1⟩)
variable {es:List Expr}{cs:List C}
theorem sa_nil:PA X [] (tOfA X.K (cArgs [])):=pa_nil.weak (by
 rintro σ H Q ⟨μ,ρ,S,d,S',sr,re,e,y⟩
 obtain ⟨rfl,rfl⟩:=ret_ok e
 exact y [] H μ sr (Step.refl _ _ _) RVs.nil)
theorem sa_cons (ha:PE X a (tOf X.K ca)) (hr:PA X es (tOfA X.K (cArgs cs))) (hs:starEach (a::es) X.env=(false,eval a X.env)::starEach es X.env):PA X (a::es) (tOfA X.K (cArgs (ca::cs))):=(pa_cons ha hr hs).weak (by
 rintro σ H Q ⟨μ,ρ,S,d,S',sr,re,e,y⟩
 obtain ⟨x,S1,e1,e⟩:=bnd_ok e
 obtain ⟨xs,S2,e2,e⟩:=bnd_ok e
 obtain ⟨rfl,rfl⟩:=ret_ok e
 exact ⟨μ,ρ,S,x,S1,sr,re,e1,fun v H1 μ1 sr1 st1 r1=>⟨μ1,ρ,S1,xs,S',sr1,re.up st1,e2,fun vs H2 μ2 sr2 st2 r2=>y (v::vs) H2 μ2 sr2 (st1.trans st2 sr2.nd) (.cons (RV.up st2.tk st2.ext _ _ r1) r2)⟩⟩)
theorem cArgs_len {ρ:Env1}:∀ {cs:List C}{S S':Store}{xs:List D},cArgs cs ρ S=.ok xs S'→xs.length=cs.length
 | [],S,S',xs,e=>by obtain ⟨rfl,rfl⟩:=ret_ok e; rfl
 | c::cs,S,S',xs,e=>by
  obtain ⟨x,S1,e1,e⟩:=bnd_ok e
  obtain ⟨ys,S2,e2,e⟩:=bnd_ok e
  obtain ⟨rfl,rfl⟩:=ret_ok e
  rw [List.length_cons,List.length_cons,cArgs_len e2]
theorem new_tup {K:W.Frag}{H:Hp}{μ:List Addr}{S:Store}{ds:List D}{vs:List V}{p:Addr} (sr:SR K μ S H) (h:H p=none) (r:RVs K H μ ds vs):SR K μ S (upd H p (.tup vs))∧Step K μ μ H (upd H p (.tup vs))∧RV K (upd H p (.tup vs)) μ (.tup ds) (.ref p):=by
 obtain ⟨s1,s2⟩:=sr.other (o:=.tup vs) h
 exact ⟨s1,s2,by unfold RV; exact ⟨p,vs,rfl,upd_same,RVs.up s2.tk s2.ext _ _ r⟩⟩
theorem new_lst {K:W.Frag}{H:Hp}{μ:List Addr}{S:Store}{ds:List D}{vs:List V}{p:Addr} (sr:SR K μ S H) (h:H p=none) (r:RVs K H μ ds vs):SR K (μ++[p]) (S++[.lst ds]) (upd H p (.lst vs))∧Step K μ (μ++[p]) H (upd H p (.lst vs))∧RV K (upd H p (.lst vs)) (μ++[p]) (.lst S.length) (.ref p):=by
 obtain ⟨s1,s2⟩:=sr.push (o:=.lst vs) (o':=.lst ds) h ⟨vs,upd_same,RVs.up (tk_new h) ⟨[p],rfl⟩ _ _ r⟩
 exact ⟨s1,s2,by unfold RV; exact ⟨p,rfl,by rw [← sr.len,List.getElem?_append_right (Nat.le_refl _),Nat.sub_self]; rfl⟩⟩
theorem Yld.newL {K:W.Frag}{H:Hp}{μ:List Addr}{S:Store}{ds:List D}{vs:List V}{p:Addr}{Q:VK} (y:Yld K μ H (.lst S.length) (S++[.lst ds]) Q) (sr:SR K μ S H) (h:H p=none) (r:RVs K H μ ds vs):Q (.ref p) (upd H p (.lst vs)):=by
 obtain ⟨s1,s2,s3⟩:=new_lst sr h r
 exact y _ _ _ s1 s2 s3
theorem Yld.newT {K:W.Frag}{H:Hp}{μ:List Addr}{S:Store}{ds:List D}{vs:List V}{p:Addr}{Q:VK} (y:Yld K μ H (.tup ds) S Q) (sr:SR K μ S H) (h:H p=none) (r:RVs K H μ ds vs):Q (.ref p) (upd H p (.tup vs)):=by
 obtain ⟨s1,s2,s3⟩:=new_tup sr h r
 exact y _ _ _ s1 s2 s3
theorem se_tup {x1} (h:PA X es (tOfA X.K (cArgs cs))) (hl:cs.length≤1000):PE X (.Tuple es x1 pos) (tOf X.K (cTup (cArgs cs))):=(pe_tup h).weak (by
 rintro σ H Q ⟨μ,ρ,S,d,S',sr,re,e,y⟩
 obtain ⟨xs,S1,e1,e⟩:=bnd_ok e
 obtain ⟨rfl,rfl⟩:=ret_ok e
 refine ⟨μ,ρ,S,xs,S',sr,re,e1,fun vs H1 μ1 sr1 st1 r1=>⟨?_,fun p hp=>(y.shift st1).newT sr1 hp r1⟩⟩
 have h1:=cArgs_len e1
 have h2:=r1.len
 exact Nat.le_of_lt (small1000 (by omega)))
theorem se_lst (h:PA X es (tOfA X.K (cArgs cs))) (hl:cs.length≤1000):PE X (.List es pos) (tOf X.K (cLst (cArgs cs))):=(pe_lst h).weak (by
 rintro σ H Q ⟨μ,ρ,S,d,S',sr,re,e,y⟩
 obtain ⟨xs,S1,e1,e⟩:=bnd_ok e
 cases e
 refine ⟨μ,ρ,S,xs,S1,sr,re,e1,fun vs H1 μ1 sr1 st1 r1=>⟨?_,fun p hp=>(y.shift st1).newL sr1 hp r1⟩⟩
 have h1:=cArgs_len e1
 have h2:=r1.len
 exact Nat.le_of_lt (small1000 (by omega)))
theorem se_ix {o:D→D→M D} (ho:OpS X.K (ixAnyR X) o) (ha:PE X a (tOf X.K ca)) (hb:PE X b (tOf X.K cb)) (hs:PlainIx b):PE X (.Subscript a b pos) (tOf X.K (cBin o ca cb)):=(pe_ix ixAny ha hb hs).weak (of_bin ho)
noncomputable def CO:=Env1→M (Option Int)
noncomputable def cNoPart:CO:=fun _=>ret none
noncomputable def dInt (x:D):M Int:=match x with
 | .int i=>ret i
 | _=>bad
noncomputable def cPart (a:C):CO:=fun ρ=>bnd (a ρ) fun x=>bnd (dInt x) fun i=>ret (some i)
def YldO (K:W.Frag) (μ:List Addr) (H:Hp) (b:Option Int) (S':Store) (Q:Option Int→Hp→Prop):Prop:=∀ H' μ',SR K μ' S' H'→Step K μ μ' H H'→Q b H'
inductive tOfO (K:W.Frag) (c:CO) (σ:St) (H:Hp) (Q:Option Int→Hp→Prop):Prop
 | mk (μ:List Addr) (ρ:Env1) (S:Store) (d:Option Int) (S':Store) (sr:SR K μ S H) (re:RE K H μ ρ σ) (e:c ρ S=.ok d S') (y:YldO K μ H d S' Q)
theorem PO.weak {e:Option Expr}{t t':TO} (h:PO X e t) (w:∀ σ H Q,t' σ H Q→t σ H Q):PO X e t':=fun pins s σ H Q I q=>h pins s σ H Q I (w σ H Q q)
theorem so_none:PO X none (tOfO X.K cNoPart):=po_none.weak (by
 rintro σ H Q ⟨μ,ρ,S,d,S',sr,re,e,y⟩
 obtain ⟨rfl,rfl⟩:=ret_ok e
 exact y H μ sr (Step.refl _ _ _))
theorem so_some (ha:PE X a (tOf X.K ca)):PO X (some a) (tOfO X.K (cPart ca)):=(po_some ha).weak (by
 rintro σ H Q ⟨μ,ρ,S,d,S',sr,re,e,y⟩
 obtain ⟨x,S1,e1,e⟩:=bnd_ok e
 obtain ⟨i,S2,e2,e⟩:=bnd_ok e
 obtain ⟨rfl,rfl⟩:=ret_ok e
 refine ⟨μ,ρ,S,x,S1,sr,re,e1,fun v H1 μ1 sr1 st1 r1=>?_⟩
 cases x with
 | int j =>
  obtain ⟨rfl,rfl⟩:=ret_ok e2
  unfold RV at r1
  exact ⟨_,r1,y H1 μ1 sr1 st1⟩
 | _=>cases e2)
noncomputable def cSl (o:D→Option Int→Option Int→M D) (a:C) (lo hi:CO):C:=fun ρ=>bnd (a ρ) fun x=>bnd (lo ρ) fun l=>bnd (hi ρ) fun h=>o x l h
def SlS (K:W.Frag) (r:V→Option Int→Option Int→Hp→VK→Prop) (o:D→Option Int→Option Int→M D):Prop:=∀ x l h S d S' H μ v Q,o x l h S=.ok d S'→SR K μ S H→RV K H μ x v→Yld K μ H d S' Q→r v l h H Q
theorem se_slice {lo hi:Option Expr}{cl ch:CO}{p2:Pos}{o:D→Option Int→Option Int→M D} (ho:SlS X.K (slAnyR X) o) (ha:PE X a (tOf X.K ca)) (hl:PO X lo (tOfO X.K cl)) (hh:PO X hi (tOfO X.K ch)):PE X (.Subscript a (.Slice lo hi none p2) pos) (tOf X.K (cSl o ca cl ch)):=(pe_slice slAny ha hl hh).weak (by
 rintro σ H Q ⟨μ,ρ,S,d,S',sr,re,e,y⟩
 obtain ⟨x,S1,e1,e⟩:=bnd_ok e
 obtain ⟨l,S2,e2,e⟩:=bnd_ok e
 obtain ⟨h,S3,e3,e⟩:=bnd_ok e
 refine ⟨μ,ρ,S,x,S1,sr,re,e1,fun v H1 μ1 sr1 st1 r1=>⟨μ1,ρ,S1,l,S2,sr1,re.up st1,e2,fun H2 μ2 sr2 st2=>?_⟩⟩
 have st12:=st1.trans st2 sr2.nd
 refine ⟨μ2,ρ,S2,h,S3,sr2,re.up st12,e3,fun H3 μ3 sr3 st3=>?_⟩
 exact ho x l h S3 d S' H3 μ3 v Q e sr3 (RV.up st3.tk st3.ext _ _ (RV.up st2.tk st2.ext _ _ r1)) (y.shift (st12.trans st3 sr3.nd)))
def CallS (K:W.Frag) (r:List V→Hp→VK→Prop) (o:List D→M D):Prop:=∀ xs S d S' H μ vs Q,o xs S=.ok d S'→SR K μ S H→RVs K H μ xs vs→Yld K μ H d S' Q→r vs H Q
variable {ca':CA}
theorem of_app {r:List V→Hp→VK→Prop}{o:List D→M D} (ho:CallS X.K r o):∀ σ H Q,tOf X.K (cApp o ca') σ H Q→tCB r (tOfA X.K ca') σ H Q:=by
 rintro σ H Q ⟨μ,ρ,S,d,S',sr,re,e,y⟩
 obtain ⟨xs,S1,e1,e⟩:=bnd_ok e
 exact ⟨μ,ρ,S,xs,S1,sr,re,e1,fun vs H1 μ1 sr1 st1 r1=>ho xs S1 d S' H1 μ1 vs Q e sr1 r1 (y.shift st1)⟩
end
open PySem PySem.Spec PyProof.Rows
noncomputable def lim:Nat:=1048576
theorem lim_le {n:Nat} (h:n≤lim):n≤sizeLine:=Nat.le_trans h (by decide)
theorem lim_lt {n:Nat} (h:n<lim):n<sizeLine:=Nat.lt_of_lt_of_le h (by decide)
section
variable {K:W.Frag}{H H' H1:Hp}{μ:List Addr}{S:Store}
theorem SR.same (sr:SR K μ S H) (sm:Same H H1):SR K μ S H1∧Step K μ μ H H1:=by
 have tk:TF K H H1:=tf_same sm
 refine ⟨⟨sr.len,sr.nd,fun n a o e1 e2=>?_⟩,⟨⟨[],by simp,by simp⟩,fun b o _ h=>sm b o h,tk⟩⟩
 obtain ⟨u,hu⟩:=sr.isS (List.mem_of_getElem? e1)
 exact (sr.obj n a o e1 e2).up tk ⟨[],by simp⟩ (by rw [hu]; exact sm _ _ hu)
theorem Yld.oldT {ds:List D}{vs:List V}{p:Addr}{Q:VK} (y:Yld K μ H (.tup ds) S Q) (sr:SR K μ S H) (sm:Same H H1) (h:H1 p=some (.tup vs)) (r:RVs K H μ ds vs):Q (.ref p) H1:=by
 obtain ⟨s1,s2⟩:=sr.same sm
 exact y _ _ _ s1 s2 (by unfold RV; exact ⟨p,vs,rfl,h,RVs.up s2.tk s2.ext _ _ r⟩)
theorem rv_int {i:Int}:RV K H μ (.int i) (.int i):=by unfold RV; rfl
theorem rv_bl {i:Bool}:RV K H μ (.bl i) (.bl i):=by unfold RV; rfl
theorem rv_non:RV K H μ .non .non:=by unfold RV; rfl
theorem rv_str {i:Str}:RV K H μ (.str i) (.str i):=by unfold RV; rfl
theorem SR.lst (sr:SR K μ S H) {n:Nat}{a:Addr}{xs:List D} (h:μ[n]?=some a) (ho:S[n]?=some (.lst xs)):∃ vs,H a=some (.lst vs)∧RVs K H μ xs vs:=sr.obj n a _ h ho
noncomputable def lstAt (S:Store) (n:Nat):Option (List D):=match S[n]? with
 | some (.lst xs)=>some xs
 | _=>none
theorem SR.sq (sr:SR K μ S H) {n:Nat}{a:Addr}{xs:List D} (h:μ[n]?=some a) (ho:lstAt S n=some xs):∃ vs,SqL K H a vs∧RVs K H μ xs vs:=by
 unfold lstAt at ho
 split at ho
 ·rename_i ys e; cases ho
  obtain ⟨vs,q,r⟩:=sr.get h e
  exact ⟨vs,SqL.of q,r⟩
 ·cases ho
noncomputable def seqAt (S:Store):D→Option (List D)
 | .tup xs=>some xs
 | .lst n=>lstAt S n
 | .rol xs=>some xs
 | _=>none
theorem SR.seq (sr:SR K μ S H) {x:D}{v:V}{xs:List D} (r:RV K H μ x v) (ho:seqAt S x=some xs):∃ a vs,v=.ref a∧(SqL K H a vs∨SqT K H a vs)∧RVs K H μ xs vs:=by
 unfold seqAt at ho
 split at ho
 ·cases ho
  unfold RV at r; obtain ⟨p,vs,rfl,q,rr⟩:=r
  exact ⟨p,vs,rfl,.inr (SqT.of q),rr⟩
 ·unfold RV at r; obtain ⟨a,rfl,hm⟩:=r
  obtain ⟨vs,q,rr⟩:=sr.sq hm ho
  exact ⟨a,vs,rfl,.inl q,rr⟩
 ·cases ho
  unfold RV at r; obtain ⟨p,vs,rfl,q,rr⟩:=r
  exact ⟨p,vs,rfl,.inl q.sq,rr⟩
 ·cases ho
theorem RVs.cons_inv {d:D}{ds:List D}{vs:List V} (h:RVs K H μ (d::ds) vs):∃ v ws,vs=v::ws∧RV K H μ d v∧RVs K H μ ds ws:=by unfold RVs at h; exact h
theorem RVs.nil_inv {vs:List V} (h:RVs K H μ [] vs):vs=[]:=by unfold RVs at h; exact h
end
noncomputable def oInt (g:Int→Int→Int):D→D→M D
 | .int i,.int j=>ret (.int (g i j))
 | _,_=>bad
noncomputable def oAdd:D→D→M D
 | .int i,.int j=>ret (.int (i+j))
 | .tup xs,.tup ys=>fun S=>if xs.length+ys.length≤lim then .ok (.tup (xs++ys)) S else .bad
 | .lst n,.lst m=>fun S=>match S[n]?,S[m]? with
  | some (.lst xs),some (.lst ys)=>if xs.length+ys.length≤lim then .ok (.lst S.length) (S++[.lst (xs++ys)]) else .bad
  | _,_=>.bad
 | .str x,.str y=>fun S=>if x.length+y.length≤lim then .ok (.str (x++y)) S else .bad
 | _,_=>bad
noncomputable def mulOk (i j:Int):Bool:=(decide (-18446744073709551616<i)&&decide (i<18446744073709551616))||(decide (-18446744073709551616<j)&&decide (j<18446744073709551616))
noncomputable def oMul:D→D→M D
 | .int i,.int j=>fun S=>if mulOk i j then .ok (.int (i*j)) S else .bad
 | _,_=>bad
noncomputable def oMod:D→D→M D
 | .int i,.int j=>fun S=>if 0<j then .ok (.int (i % j)) S else .bad
 | _,_=>bad
noncomputable def oDiv:D→D→M D
 | .int i,.int j=>fun S=>if 0<j∧j<1073741824 then .ok (.int (i / j)) S else .bad
 | _,_=>bad
noncomputable def oPow:D→D→M D
 | .int i,.int j=>fun S=>if 0≤j∧j≤1000000∧i.natAbs<18446744073709551616 then .ok (.int (i ^ j.toNat)) S else .bad
 | _,_=>bad
noncomputable def oShl:D→D→M D
 | .int i,.int j=>fun S=>if 0≤j∧j≤1000000∧i.natAbs<18446744073709551616 then .ok (.int (i*2 ^ j.toNat)) S else .bad
 | _,_=>bad
noncomputable def oShr:D→D→M D
 | .int i,.int j=>fun S=>if 0≤j then .ok (.int (i / 2 ^ j.toNat)) S else .bad
 | _,_=>bad
noncomputable def oNeg:D→M D
 | .int i=>ret (.int (-i))
 | _=>bad
section
variable {X:Cx}
theorem os_int {op:Operator}{g:Int→Int→Int} (h:OpR X (binaryOp op) (rI0 fun i j=>.int (g i j))):OpS X.K (rAny X (binaryOp op)) (oInt g):=by
 intro x y S d S' H μ v u Q e sr rx ry h'
 unfold oInt at e
 split at e
 ·obtain ⟨rfl,rfl⟩:=ret_ok e
  unfold RV at rx ry; subst rx ry
  exact ⟨_,h,_,_,rfl,rfl,h'.self sr rv_int⟩
 ·cases e
theorem os_sub:OpS X.K (rAny X (binaryOp .Sub)) (oInt fun i j=>i - j):=os_int op_sub
theorem os_and:OpS X.K (rAny X (binaryOp .BitAnd)) (oInt Builtin.bitAnd):=os_int op_and
theorem os_or:OpS X.K (rAny X (binaryOp .BitOr)) (oInt Builtin.bitOr):=os_int op_or
theorem os_xor:OpS X.K (rAny X (binaryOp .BitXor)) (oInt Builtin.bitXor):=os_int op_xor
theorem os_add:OpS X.K (rAny X (binaryOp .Add)) oAdd:=by
 intro x y S d S' H μ v u Q e sr rx ry h
 unfold oAdd at e
 split at e
 ·obtain ⟨rfl,rfl⟩:=ret_ok e
  unfold RV at rx ry; subst rx ry
  exact ⟨_,op_add,_,_,rfl,rfl,h.self sr rv_int⟩
 ·try dsimp only at e
  split at e
  ·rename_i hl; cases e
   unfold RV at rx ry
   obtain ⟨p,vs,rfl,q1,r1⟩:=rx
   obtain ⟨p2,ws,rfl,q2,r2⟩:=ry
   exact ⟨_,op_catT2,p,p2,vs,ws,rfl,rfl,q1,q2,by rw [← r1.len,← r2.len]; exact lim_le hl,fun p3 H1 sm sq=>h.oldT sr sm sq (r1.append r2)⟩
  ·cases e
 ·try dsimp only at e
  unfold RV at rx ry
  obtain ⟨p,rfl,m1⟩:=rx
  obtain ⟨p2,rfl,m2⟩:=ry
  split at e
  ·rename_i xs ys o1 o2
   split at e
   ·rename_i hl; cases e
    obtain ⟨vs,q1,r1⟩:=sr.lst m1 o1
    obtain ⟨ws,q2,r2⟩:=sr.lst m2 o2
    exact ⟨_,op_cat,p,p2,vs,ws,rfl,rfl,q1,q2,by rw [← r1.len,← r2.len]; exact lim_le hl,fun p3 hp=>h.newL sr hp (r1.append r2)⟩
   ·cases e
  ·cases e
 ·try dsimp only at e
  split at e
  ·rename_i hl; cases e
   unfold RV at rx ry; subst rx ry
   exact ⟨_,op_add_str,_,_,rfl,rfl,lim_le hl,h.self sr rv_str⟩
  ·cases e
 ·cases e
theorem mulOk_c {i j:Int} (h:mulOk i j=true):CMul i j:=by
 unfold mulOk at h
 simp only [Bool.or_eq_true,Bool.and_eq_true,decide_eq_true_eq] at h
 exact h
theorem os_mul:OpS X.K (rAny X (binaryOp .Mult)) oMul:=by
 intro x y S d S' H μ v u Q e sr rx ry h
 unfold oMul at e
 split at e
 ·try dsimp only at e
  split at e
  ·rename_i hl; cases e
   unfold RV at rx ry; subst rx ry
   exact ⟨_,op_mul,_,_,rfl,rfl,mulOk_c hl,h.self sr rv_int⟩
  ·cases e
 ·cases e
theorem os_mod:OpS X.K (rAny X (binaryOp .Mod)) oMod:=by
 intro x y S d S' H μ v u Q e sr rx ry h
 unfold oMod at e
 split at e
 ·try dsimp only at e
  split at e
  ·rename_i hl; cases e
   unfold RV at rx ry; subst rx ry
   exact ⟨_,op_mod,_,_,rfl,rfl,hl,h.self sr rv_int⟩
  ·cases e
 ·cases e
theorem os_div:OpS X.K (rAny X (binaryOp .FloorDiv)) oDiv:=by
 intro x y S d S' H μ v u Q e sr rx ry h
 unfold oDiv at e
 split at e
 ·try dsimp only at e
  split at e
  ·rename_i hl; cases e
   unfold RV at rx ry; subst rx ry
   exact ⟨_,op_fdiv,_,_,rfl,rfl,hl,h.self sr rv_int⟩
  ·cases e
 ·cases e
theorem os_pow:OpS X.K (rAny X (binaryOp .Pow)) oPow:=by
 intro x y S d S' H μ v u Q e sr rx ry h
 unfold oPow at e
 split at e
 ·try dsimp only at e
  split at e
  ·rename_i hl; cases e
   unfold RV at rx ry; subst rx ry
   exact ⟨_,op_pow,_,_,rfl,rfl,hl,h.self sr rv_int⟩
  ·cases e
 ·cases e
theorem os_shl:OpS X.K (rAny X (binaryOp .LShift)) oShl:=by
 intro x y S d S' H μ v u Q e sr rx ry h
 unfold oShl at e
 split at e
 ·try dsimp only at e
  split at e
  ·rename_i hl; cases e
   unfold RV at rx ry; subst rx ry
   exact ⟨_,op_shl,_,_,rfl,rfl,hl,h.self sr rv_int⟩
  ·cases e
 ·cases e
theorem os_shr:OpS X.K (rAny X (binaryOp .RShift)) oShr:=by
 intro x y S d S' H μ v u Q e sr rx ry h
 unfold oShr at e
 split at e
 ·try dsimp only at e
  split at e
  ·rename_i hl; cases e
   unfold RV at rx ry; subst rx ry
   exact ⟨_,op_shr,_,_,rfl,rfl,hl,h.self sr rv_int⟩
  ·cases e
 ·cases e
theorem us_neg:UnS X.K (uAny X (unaryOp .USub)) oNeg:=by
 intro x S d S' H μ v Q e sr rx h
 unfold oNeg at e
 split at e
 ·obtain ⟨rfl,rfl⟩:=ret_ok e
  unfold RV at rx; subst rx
  exact ⟨_,un_neg,_,rfl,h.self sr rv_int⟩
 ·cases e
noncomputable def oCmp (g:Int→Int→Bool):D→D→M D
 | .int i,.int j=>ret (.bl (g i j))
 | _,_=>bad
theorem os_cmp {op:CmpOp}{g:Int→Int→Bool} (h:OpR X (compareOp op) (rI0 fun i j=>.bl (g i j))):OpS X.K (rAny X (compareOp op)) (oCmp g):=by
 intro x y S d S' H μ v u Q e sr rx ry h'
 unfold oCmp at e
 split at e
 ·obtain ⟨rfl,rfl⟩:=ret_ok e
  unfold RV at rx ry; subst rx ry
  exact ⟨_,h,_,_,rfl,rfl,h'.self sr rv_bl⟩
 ·cases e
theorem os_le:OpS X.K (rAny X (compareOp .LtE)) (oCmp fun i j=>decide (i≤j)):=os_cmp op_le
theorem os_gt:OpS X.K (rAny X (compareOp .Gt)) (oCmp fun i j=>decide (j<i)):=os_cmp op_gt
theorem os_ge:OpS X.K (rAny X (compareOp .GtE)) (oCmp fun i j=>decide (j≤i)):=os_cmp op_ge
noncomputable def intsOf:List D→Option (List Int)
 | []=>some []
 | .int i::r=>(intsOf r).map (i::·)
 | _::_=>none
theorem intsOf_vs {K:W.Frag}{H:Hp}{μ:List Addr}:∀ {ds:List D}{ns:List Int}{vs:List V},intsOf ds=some ns→RVs K H μ ds vs→vs=ns.map V.int
 | [],ns,vs,e,r=>by cases e; rw [r.nil_inv]; rfl
 | .int i::ds,ns,vs,e,r=>by
  obtain ⟨v,ws,rfl,r1,r2⟩:=r.cons_inv
  unfold intsOf at e
  cases q:intsOf ds with
  | none=>rw [q] at e; cases e
  | some ms =>
   rw [q] at e; cases e
   unfold RV at r1; subst r1
   rw [intsOf_vs q r2]; rfl
 | .non::ds,ns,vs,e,r=>by cases e
 | .bl _::ds,ns,vs,e,r=>by cases e
 | .str _::ds,ns,vs,e,r=>by cases e
 | .ty _::ds,ns,vs,e,r=>by cases e
 | .tup _::ds,ns,vs,e,r=>by cases e
 | .lst _::ds,ns,vs,e,r=>by cases e
 | .dct _::ds,ns,vs,e,r=>by cases e
 | .rol _::ds,ns,vs,e,r=>by cases e
 | .xc _::ds,ns,vs,e,r=>by cases e
noncomputable def oLt:D→D→M D
 | .int i,.int j=>ret (.bl (decide (i<j)))
 | _,_=>bad
theorem os_lt (hu:X.A.units<cLine):OpS X.K (rAny X (compareOp .Lt)) oLt:=by
 intro x y S d S' H μ v u Q e sr rx ry h
 unfold oLt at e
 split at e
 ·obtain ⟨rfl,rfl⟩:=ret_ok e
  unfold RV at rx ry; subst rx ry
  exact ⟨_,op_lt,_,_,rfl,rfl,h.self sr rv_bl⟩
 ·cases e
noncomputable def snap:Nat→Store→D→Option PyData
 | 0,_,_=>none
 | n+1,S,d=>match d with
  | .non=>some .none
  | .bl b=>some (.bool b)
  | .int i=>some (.int i)
  | .str x=>if PyData.strOk x then some (.str x) else none
  | .tup xs=>(xs.mapM (snap n S)).map .tuple
  | .lst k=>match lstAt S k with
   | some xs=>(xs.mapM (snap n S)).map .list
   | none=>none
  | _=>none
theorem snapL {K:W.Frag}{H:Hp}{μ:List Addr}{S:Store}{n:Nat} (ih:∀ d v p,snap n S d=some p→RV K H μ d v→Rp K H (fun _=>True) v p∧p.canLay0=true∧p.depth≤n):∀ (xs:List D) (vs:List V) (ps:List PyData),xs.mapM (snap n S)=some ps→RVs K H μ xs vs→RpL K H (fun _=>True) vs ps∧PyData.canLayAll0 ps=true∧PyData.depthAll ps≤n
 | [],vs,ps,e,r=>by
  simp at e; subst e
  rw [r.nil_inv]
  exact ⟨.nil,rfl,Nat.zero_le _⟩
 | d::ds,vs,ps,e,r=>by
  obtain ⟨v,ws,rfl,r1,r2⟩:=r.cons_inv
  rw [List.mapM_cons] at e
  cases q:snap n S d with
  | none=>rw [q] at e; cases e
  | some p =>
   cases q2:ds.mapM (snap n S) with
   | none=>rw [q,q2] at e; cases e
   | some ps' =>
    rw [q,q2] at e
    cases e
    obtain ⟨a1,a2,a3⟩:=ih d v p q r1
    obtain ⟨b1,b2,b3⟩:=snapL ih ds ws ps' q2 r2
    refine ⟨.cons a1 b1,?_,?_⟩
    ·show (PyData.canLay0 p&&PyData.canLayAll0 ps')=true
     rw [a2,b2]; rfl
    ·show max p.depth (PyData.depthAll ps')≤n
     omega
theorem snap_ok {K:W.Frag}{H:Hp}{μ:List Addr}{S:Store} (sr:SR K μ S H):∀ (n:Nat) (d:D) (v:V) (p:PyData),snap n S d=some p→RV K H μ d v→Rp K H (fun _=>True) v p∧p.canLay0=true∧p.depth≤n
 | 0,d,v,p,e,r=>by cases e
 | n+1,d,v,p,e,r=>by
  unfold snap at e
  cases d with
  | non=>cases e; unfold RV at r; subst r; exact ⟨.non,rfl,Nat.zero_le _⟩
  | bl b=>cases e; unfold RV at r; subst r; exact ⟨.bl b,rfl,Nat.zero_le _⟩
  | int i=>cases e; unfold RV at r; subst r; exact ⟨.int i,rfl,Nat.zero_le _⟩
  | str x =>
   dsimp only at e
   split at e
   ·rename_i hs; cases e; unfold RV at r; subst r; exact ⟨.str x,hs,Nat.zero_le _⟩
   ·cases e
  | tup xs =>
   dsimp only at e
   cases q:xs.mapM (snap n S) with
   | none=>rw [q] at e; cases e
   | some ps =>
    rw [q] at e; cases e
    unfold RV at r; obtain ⟨a,vs,rfl,hq,rr⟩:=r
    obtain ⟨b1,b2,b3⟩:=snapL (fun d v p e r=>snap_ok sr n d v p e r) xs vs ps q rr
    exact ⟨.tup (SqT.of hq) b1,b2,Nat.succ_le_succ b3⟩
  | lst k =>
   dsimp only at e
   split at e
   ·rename_i xs hx
    cases q:xs.mapM (snap n S) with
    | none=>rw [q] at e; cases e
    | some ps =>
     rw [q] at e; cases e
     unfold RV at r; obtain ⟨a,rfl,hm⟩:=r
     obtain ⟨vs,hq,rr⟩:=sr.sq hm hx
     obtain ⟨b1,b2,b3⟩:=snapL (fun d v p e r=>snap_ok sr n d v p e r) xs vs ps q rr
     exact ⟨.lst True.intro hq b1,b2,Nat.succ_le_succ b3⟩
   ·cases e
  | dct k=>cases e
  | ty k=>cases e
  | rol k=>cases e
  | xc _=>cases e
noncomputable def oEq:D→D→M D:=fun x y S=>match x,y with
 | .str a,.str b=>.ok (.bl (decide (a=b))) S
 | _,_=>match snap 40 S x,snap 40 S y with
  | some p,some q=>.ok (.bl (PyData.eqv p q)) S
  | _,_=>.bad
noncomputable def oNe:D→D→M D:=fun x y S=>match x,y with
 | .str a,.str b=>.ok (.bl (!decide (a=b))) S
 | _,_=>match snap 40 S x,snap 40 S y with
  | some p,some q=>.ok (.bl (!PyData.eqv p q)) S
  | _,_=>.bad
theorem os_eq (hu:X.A.units+64<cLine):OpS X.K (rAny X (compareOp .Eq)) oEq:=by
 intro x y S d S' H μ v u Q e sr rx ry h
 unfold oEq at e
 split at e
 ·rename_i a b
  cases e
  unfold RV at rx ry; subst rx ry
  refine ⟨_,op_eq,rfl,?_⟩
  have z:decide (V.str a=V.str b)=decide (a=b):=by simp
  rw [z]
  exact h.self sr rv_bl
 ·split at e
  ·rename_i p q e1 e2
   cases e
   obtain ⟨a1,a2,a3⟩:=snap_ok sr 40 x v p e1 rx
   obtain ⟨b1,b2,b3⟩:=snap_ok sr 40 y u q e2 ry
   exact ⟨_,op_eqD hu,_,_,p,q,a1,b1,⟨a2,by omega⟩,⟨b2,by omega⟩,h.self sr rv_bl⟩
  ·cases e
theorem os_ne (hu:X.A.units+64<cLine):OpS X.K (rAny X (compareOp .NotEq)) oNe:=by
 intro x y S d S' H μ v u Q e sr rx ry h
 unfold oNe at e
 split at e
 ·rename_i a b
  cases e
  unfold RV at rx ry; subst rx ry
  refine ⟨_,op_ne,rfl,?_⟩
  have z:decide (V.str a=V.str b)=decide (a=b):=by simp
  rw [z]
  exact h.self sr rv_bl
 ·split at e
  ·rename_i p q e1 e2
   cases e
   obtain ⟨a1,a2,a3⟩:=snap_ok sr 40 x v p e1 rx
   obtain ⟨b1,b2,b3⟩:=snap_ok sr 40 y u q e2 ry
   exact ⟨_,op_neD hu,_,_,p,q,a1,b1,⟨a2,by omega⟩,⟨b2,by omega⟩,h.self sr rv_bl⟩
  ·cases e
noncomputable def D.isNon:D→Bool
 | .non=>true
 | _=>false
theorem isNon_v {K:W.Frag}{H:Hp}{μ:List Addr}{x:D}{v:V} (r:RV K H μ x v):decide (v=.non)=x.isNon:=by
 cases x with
 | non=>unfold RV at r; subst r; rfl
 | bl _=>unfold RV at r; subst r; rfl
 | int _=>unfold RV at r; subst r; rfl
 | str _=>unfold RV at r; subst r; rfl
 | ty _=>unfold RV at r; subst r; rfl
 | tup _=>unfold RV at r; obtain ⟨_,_,rfl,_⟩:=r; rfl
 | lst _=>unfold RV at r; obtain ⟨_,rfl,_⟩:=r; rfl
 | dct _=>unfold RV at r; obtain ⟨_,rfl,_⟩:=r; rfl
 | rol _=>unfold RV at r; obtain ⟨_,_,rfl,_⟩:=r; rfl
 | xc _=>unfold RV at r; obtain ⟨_,_,_,rfl,_⟩:=r; rfl
noncomputable def oIs:D→D→M D
 | x,.non=>ret (.bl x.isNon)
 | .bl a,.bl b=>ret (.bl (a == b))
 | _,_=>bad
noncomputable def oIsNot:D→D→M D
 | x,.non=>ret (.bl (!x.isNon))
 | .bl a,.bl b=>ret (.bl (a != b))
 | _,_=>bad
theorem os_is:OpS X.K (rAny X (compareOp .Is)) oIs:=by
 intro x y S d S' H μ v u Q e sr rx ry h
 unfold oIs at e
 split at e
 ·obtain ⟨rfl,rfl⟩:=ret_ok e
  unfold RV at ry
  exact ⟨_,op_isN,ry,by rw [isNon_v rx]; exact h.self sr rv_bl⟩
 ·obtain ⟨rfl,rfl⟩:=ret_ok e
  unfold RV at rx ry; subst rx ry
  exact ⟨_,op_is_bl,_,_,rfl,rfl,h.self sr rv_bl⟩
 ·cases e
theorem os_isNot:OpS X.K (rAny X (compareOp .IsNot)) oIsNot:=by
 intro x y S d S' H μ v u Q e sr rx ry h
 unfold oIsNot at e
 split at e
 ·obtain ⟨rfl,rfl⟩:=ret_ok e
  unfold RV at ry
  exact ⟨_,op_notN,ry,by rw [isNon_v rx]; exact h.self sr rv_bl⟩
 ·obtain ⟨rfl,rfl⟩:=ret_ok e
  unfold RV at rx ry; subst rx ry
  exact ⟨_,op_isnot_bl,_,_,rfl,rfl,h.self sr rv_bl⟩
 ·cases e
noncomputable def flat:D→Option V
 | .non=>some .non
 | .bl b=>some (.bl b)
 | .int i=>some (.int i)
 | .str x=>some (.str x)
 | _=>none
theorem flat_v {K:W.Frag}{H:Hp}{μ:List Addr}{x:D}{v w:V} (e:flat x=some w) (r:RV K H μ x v):v=w:=by
 cases x with
 | non=>cases e; unfold RV at r; exact r
 | bl _=>cases e; unfold RV at r; exact r
 | int _=>cases e; unfold RV at r; exact r
 | str _=>cases e; unfold RV at r; exact r
 | _=>cases e
theorem flats_v {K:W.Frag}{H:Hp}{μ:List Addr}:∀ {ds:List D}{vs ws:List V},ds.mapM flat=some ws→RVs K H μ ds vs→vs=ws
 | [],vs,ws,e,r=>by simp at e; subst e; exact r.nil_inv
 | d::ds,vs,ws,e,r=>by
  obtain ⟨v,us,rfl,r1,r2⟩:=r.cons_inv
  rw [List.mapM_cons] at e
  cases q:flat d with
  | none=>rw [q] at e; cases e
  | some w =>
   cases q2:ds.mapM flat with
   | none=>rw [q,q2] at e; cases e
   | some ws' =>
    rw [q,q2] at e; cases e
    rw [flat_v q r1,flats_v q2 r2]
noncomputable def keyOf:D→Option Key
 | .int i=>some (.inl i)
 | .str x=>some (.inr x)
 | _=>none
theorem keyOf_v {K:W.Frag}{H:Hp}{μ:List Addr}{x:D}{v:V}{k:Key} (e:keyOf x=some k) (r:RV K H μ x v):v=kV k:=by
 cases x with
 | int _=>cases e; unfold RV at r; exact r
 | str _=>cases e; unfold RV at r; exact r
 | _=>cases e
noncomputable def valD {κ:Type} [DecidableEq κ] (kvs:List (κ × D)) (k:κ):Option D:=(kvs.find? fun kv=>decide (kv.1=k)).map (·.2)
noncomputable def putD {κ:Type} [DecidableEq κ] (kvs:List (κ × D)) (k:κ) (v:D):List (κ × D) :=
 if (kvs.any fun kv=>decide (kv.1=k))=true then kvs.map (fun kv=>if kv.1=k then (kv.1,v) else kv) else kvs++[(k,v)]
section
variable {κ:Type} [DecidableEq κ] {K:W.Frag}{H:Hp}{μ:List Addr}
theorem RKs.cons_inv {p:κ × D}{kvs:List (κ × D)}{ws:List (κ × V)} (h:RKs K H μ (p::kvs) ws):∃ q us,ws=q::us∧p.1=q.1∧RV K H μ p.2 q.2∧RKs K H μ kvs us:=by
 obtain ⟨h1,h2⟩:=h
 rw [List.map_cons] at h1 h2
 obtain ⟨v,vs,e,r1,r2⟩:=h2.cons_inv
 cases ws with
 | nil=>simp at h1
 | cons q us =>
  rw [List.map_cons] at h1 e
  cases e
  rw [List.cons.injEq] at h1
  exact ⟨q,us,rfl,h1.1,r1,h1.2,r2⟩
theorem RKs.val {k:κ}:∀ {kvs:List (κ × D)}{ws:List (κ × V)},RKs K H μ kvs ws→(∀ d,valD kvs k=some d→∃ v,valV ws k=some v∧RV K H μ d v)∧(valD kvs k=none→valV ws k=none)
 | [],ws,h=>by
  have:ws=[]:=by have:=h.1; cases ws with | nil=>rfl | cons a b=>simp at this
  subst this
  exact ⟨fun d e=>(by cases e),fun _=>rfl⟩
 | p::kvs,ws,h=>by
  obtain ⟨q,us,rfl,e1,r1,r2⟩:=h.cons_inv
  obtain ⟨i1,i2⟩:=RKs.val (k:=k) r2
  by_cases hk:p.1=k
  ·have e2:valD (p::kvs) k=some p.2:=by simp [valD,List.find?_cons,hk]
   rw [e2,valV_pos (e1▸hk)]
   exact ⟨fun d e=>by cases e; exact ⟨_,rfl,r1⟩,fun e=>by cases e⟩
  ·have e2:valD (p::kvs) k=valD kvs k:=by simp [valD,List.find?_cons,hk]
   rw [e2,valV_neg (e1▸hk)]
   exact ⟨i1,i2⟩
theorem RKs.nil:RKs K H μ ([]:List (κ × D)) []:=⟨rfl,RVs.nil⟩
theorem RKs.cons {k:κ}{d:D}{v:V}{kvs:List (κ × D)}{ws:List (κ × V)} (r:RV K H μ d v) (h:RKs K H μ kvs ws):RKs K H μ ((k,d)::kvs) ((k,v)::ws):=⟨by rw [List.map_cons,List.map_cons,h.1],by rw [List.map_cons,List.map_cons]; exact .cons r h.2⟩
theorem RKs.any {k:κ}:∀ {kvs:List (κ × D)}{ws:List (κ × V)},RKs K H μ kvs ws→(kvs.any fun kv=>decide (kv.1=k))=(ws.any fun kv=>decide (kv.1=k))
 | [],ws,h=>by
  have:ws=[]:=by have:=h.1; cases ws with | nil=>rfl | cons a b=>simp at this
  subst this; rfl
 | p::kvs,ws,h=>by
  obtain ⟨q,us,rfl,e1,r1,r2⟩:=h.cons_inv
  rw [List.any_cons,List.any_cons,RKs.any r2,e1]
theorem RKs.mapSet {k:κ}{d:D}{v:V} (rv:RV K H μ d v):∀ {kvs:List (κ × D)}{ws:List (κ × V)},RKs K H μ kvs ws→RKs K H μ (kvs.map (fun kv=>if kv.1=k then (kv.1,d) else kv)) (ws.map (fun kv=>if kv.1=k then (kv.1,v) else kv))
 | [],ws,h=>by
  have:ws=[]:=by have:=h.1; cases ws with | nil=>rfl | cons a b=>simp at this
  subst this; exact .nil
 | p::kvs,ws,h=>by
  obtain ⟨q,us,rfl,e1,r1,r2⟩:=h.cons_inv
  rw [List.map_cons,List.map_cons]
  obtain ⟨p1,p2⟩:=p
  obtain ⟨q1,q2⟩:=q
  dsimp only at e1 r1 ⊢
  subst e1
  by_cases hk:p1=k
  ·rw [if_pos hk,if_pos hk]; exact .cons rv (RKs.mapSet rv r2)
  ·rw [if_neg hk,if_neg hk]; exact .cons r1 (RKs.mapSet rv r2)
theorem RKs.append {as:List (κ × D)}{bs:List (κ × V)}{cs:List (κ × D)}{ds:List (κ × V)} (h:RKs K H μ as bs) (g:RKs K H μ cs ds):RKs K H μ (as++cs) (bs++ds):=⟨by rw [List.map_append,List.map_append,h.1,g.1],by rw [List.map_append,List.map_append]; exact h.2.append g.2⟩
theorem RKs.put {k:κ}{d:D}{v:V} (rv:RV K H μ d v) {kvs:List (κ × D)}{ws:List (κ × V)} (h:RKs K H μ kvs ws):RKs K H μ (putD kvs k d) (putK ws k v):=by
 unfold putD putK
 rw [h.any (k:=k)]
 by_cases hc:(ws.any fun kv=>decide (kv.1=k))=true
 ·rw [if_pos hc,if_pos hc]; exact h.mapSet rv
 ·rw [if_neg hc,if_neg hc]; exact h.append (.cons rv .nil)
theorem RKs.len {kvs:List (κ × D)}{ws:List (κ × V)} (h:RKs K H μ kvs ws):kvs.length=ws.length:=by
 have:=congrArg List.length h.1
 simpa using this
end
noncomputable def dictAt (S:Store) (n:Nat) (x:D):Option (Option D):=match S[n]? with
 | some (.dk kvs)=>(keyOf x).map fun k=>valD kvs k
 | _=>none
theorem dictAt_ok {K:W.Frag}{H:Hp}{μ:List Addr}{S:Store}{n:Nat}{x:D}{v:V}{a:Addr}{r:Option D} (sr:SR K μ S H) (e:dictAt S n x=some r) (hm:μ[n]?=some a) (rx:RV K H μ x v):∃ o,DGet H a v o∧(∀ d,r=some d→∃ w,o=some w∧RV K H μ d w)∧(r=none→o=none):=by
 unfold dictAt at e
 split at e
 ·rename_i kvs ho
  cases q:keyOf x with
  | none=>rw [q] at e; cases e
  | some k =>
   rw [q] at e; cases e
   obtain ⟨ws,hw,rr⟩:=sr.get hm ho
   have:=keyOf_v q rx
   subst this
   exact ⟨valV ws k,DGet.k hw,(rr.val (k:=k)).1,(rr.val (k:=k)).2⟩
 ·cases e
noncomputable def oIn (neg:Bool):D→D→M D:=fun x y S=>match y with
 | .dct n=>match dictAt S n x with
  | some o=>.ok (.bl (if neg then !o.isSome else o.isSome)) S
  | none=>.bad
 | _=>match seqAt S y,flat x with
  | some ys,some v=>match ys.mapM flat with
   | some vs=>.ok (.bl (if neg then !inV v vs else inV v vs)) S
   | none=>.bad
  | _,_=>.bad
theorem flat_flatV {x:D}{v:V} (h:flat x=some v):flatV v=true:=by
 cases x <;> first | (cases h; rfl) | cases h
theorem flats_flatV:∀ {ds:List D}{vs:List V},ds.mapM flat=some vs→vs.all flatV=true
 | [],vs,e=>by simp at e; subst e; rfl
 | d::ds,vs,e=>by
  rw [List.mapM_cons] at e
  cases q:flat d with
  | none=>rw [q] at e; cases e
  | some w =>
   cases q2:ds.mapM flat with
   | none=>rw [q,q2] at e; cases e
   | some ws' =>
    rw [q,q2] at e; cases e
    rw [List.all_cons,flat_flatV q,flats_flatV q2]; rfl
theorem op_din (hu:X.A.units+1<cLine):OpR X (compareOp .In) (fun y x H Q=>∃ a o,x=.ref a∧DGet H a y o∧Q (.bl o.isSome) H):=by
 intro pins s σ H y x v u Q I ry rx h
 obtain ⟨a,o,rfl,g,q⟩:=h
 obtain rfl:u=Value.ref a:=rx
 exact d_in hu I g ry fun s3 I3=>⟨.bl o.isSome,H,I3,rfl,q⟩
theorem op_dnotin (hu:X.A.units+1<cLine):OpR X (compareOp .NotIn) (fun y x H Q=>∃ a o,x=.ref a∧DGet H a y o∧Q (.bl (!o.isSome)) H):=by
 intro pins s σ H y x v u Q I ry rx h
 obtain ⟨a,o,rfl,g,q⟩:=h
 obtain rfl:u=Value.ref a:=rx
 exact d_notIn hu I g ry fun s3 I3=>⟨.bl (!o.isSome),H,I3,rfl,q⟩
theorem os_in_core {neg:Bool}{op:CmpOp} (h1:OpR X (compareOp op) (rIn X.K neg)) (h2:OpR X (compareOp op) (fun y x H Q=>∃ a o,x=.ref a∧DGet H a y o∧Q (.bl (if neg then !o.isSome else o.isSome)) H))
  : OpS X.K (rAny X (compareOp op)) (oIn neg):=by
 intro x y S d S' H μ v u Q e sr rx ry h
 unfold oIn at e
 split at e
 ·rename_i n
  split at e
  ·rename_i o ho
   cases e
   unfold RV at ry
   obtain ⟨a,rfl,hm⟩:=ry
   obtain ⟨o',g,g1,g2⟩:=dictAt_ok sr ho hm rx
   have e2:o'.isSome=o.isSome:=by
    cases o with
    | none=>simp [g2 rfl]
    | some d=>obtain ⟨w,rfl,_⟩:=g1 d rfl; rfl
   exact ⟨_,h2,a,o',rfl,g,by rw [e2]; exact h.self sr rv_bl⟩
  ·cases e
 ·split at e
  ·rename_i ys w e1 e2
   split at e
   ·rename_i ws e3
    cases e
    obtain ⟨a,vs,rfl,hq,rr⟩:=sr.seq ry e1
    have z1:=flat_v e2 rx
    have z2:=flats_v e3 rr
    subst z1 z2
    exact ⟨_,h1,a,vs,rfl,hq,flat_flatV e2,flats_flatV e3,h.self sr rv_bl⟩
   ·cases e
  ·cases e
theorem os_in (hu:X.A.units+64<cLine):OpS X.K (rAny X (compareOp .In)) (oIn false):=os_in_core op_in_seq (op_din (by omega))
theorem os_notIn (hu:X.A.units+64<cLine):OpS X.K (rAny X (compareOp .NotIn)) (oIn true):=os_in_core op_notIn_seq (op_dnotin (by omega))
end
open PySem PySem.Spec PyProof.Rows
section
variable {X:Cx}
theorem ix_dict (hu:X.A.units+1<cLine):IxR X (fun x y H Q=>∃ a v,x=.ref a∧DGet H a y (some v)∧Q v H):=by
 intro value slice pins s σ H x y v u Q I rx ry h hs
 obtain ⟨a,z,rfl,g,q⟩:=h
 obtain rfl:v=Value.ref a:=rx
 have hT:=dict_typeIs I g
 have h₂:wpAny (model X.prog X.w) X.A (getItem (.ref a) u) (EP X pins σ Q) X.xe s:=d_getItem hu I g ry fun w' s3 I3 rw'=>⟨z,H,I3,rw',q⟩
 unfold subscriptTail
 refine wpAny_bind ?_
 rw [getitemInPython_of_ne hT.not_modules]
 refine wpAny_bind (wpAny_specialOf hT PySem.F.slot_dict_getitem.lookup ?_)
 have fin:wpAny (model X.prog X.w) X.A (subscripted slice false (.ref a) u) (fun r s₃=>wpAny (model X.prog X.w) X.A (letTemporaryGo value (.ref a) r >>= fun _=>pure r) (EP X pins σ Q) X.xe s₃) X.xe s:=by
  rw [hs]
  exact wpAny_operating (wpAny_mono h₂ (fun r s₃ h₃=>wpAny_bind (wpAny_letTemporaryGo (wpAny_pure h₃))) fun _ _ x=>x)
 exact wpAny_pure (wpAny_bind fin)
noncomputable def oIx:D→D→M D:=fun x i S=>match x with
 | .dct n=>match dictAt S n i with
  | some (some d)=>.ok d S
  | _=>.bad
 | .str z=>match i with
  | .int j=>match atI z.cps.toList j with
   | some c=>if z.length≤lim then .ok (.str ⟨#[c]⟩) S else .bad
   | none=>.bad
  | _=>.bad
 | _=>match seqAt S x,i with
  | some xs,.int j=>match atI xs j with
   | some d=>.ok d S
   | none=>.bad
  | _,_=>.bad
theorem RVs.at {K:W.Frag}{H:Hp}{μ:List Addr}{ds:List D}{vs:List V}{i:Int}{d:D} (r:RVs K H μ ds vs) (e:atI ds i=some d):∃ v,atI vs i=some v∧RV K H μ d v:=by
 unfold atI at e ⊢
 rw [← r.len]
 cases q:ixN ds.length i with
 | none=>rw [q] at e; cases e
 | some j =>
  rw [q] at e
  obtain ⟨v,e1,e2⟩:=r.get (i:=j) (d:=d) e
  exact ⟨v,e1,e2⟩
theorem os_ix (hu:X.A.units+1<cLine):OpS X.K (ixAnyR X) oIx:=by
 intro x y S d S' H μ v u Q e sr rx ry h
 unfold oIx at e
 split at e
 ·rename_i n
  split at e
  ·rename_i d' ho
   cases e
   unfold RV at rx
   obtain ⟨a,rfl,hm⟩:=rx
   obtain ⟨o,g,g1,_⟩:=dictAt_ok sr ho hm ry
   obtain ⟨w,rfl,rw'⟩:=g1 _ rfl
   exact ⟨_,ix_dict hu,a,w,rfl,g,h.self sr rw'⟩
  ·cases e
 ·rename_i z
  split at e
  ·rename_i j
   split at e
   ·rename_i c hc
    split at e
    ·rename_i hl
     cases e
     unfold RV at rx ry
     subst rx ry
     exact ⟨_,ix_str,z,j,c,rfl,rfl,lim_le hl,hc,h.self sr rv_str⟩
    ·cases e
   ·cases e
  ·cases e
 ·split at e
  ·rename_i xs j e1
   split at e
   ·rename_i d' e2
    cases e
    obtain ⟨a,vs,rfl,hq,rr⟩:=sr.seq rx e1
    obtain ⟨w,e3,rw'⟩:=rr.at e2
    unfold RV at ry
    subst ry
    rcases hq with hq | hq
    ·exact ⟨_,ix_list,a,vs,j,w,rfl,rfl,hq,e3,h.self sr rw'⟩
    ·exact ⟨_,ix_tup,a,vs,j,w,rfl,rfl,hq,e3,h.self sr rw'⟩
   ·cases e
  ·cases e
noncomputable def cutD (xs:List D) (lo hi:Option Int):List D:=(xs.drop (HT.sIx xs.length 0 lo)).take (HT.sIx xs.length xs.length hi - HT.sIx xs.length 0 lo)
noncomputable def oSl:D→Option Int→Option Int→M D:=fun x lo hi S=>match x with
 | .tup xs=>.ok (.tup (cutD xs lo hi)) S
 | .lst n=>match lstAt S n with
  | some xs=>.ok (.lst S.length) (S++[.lst (cutD xs lo hi)])
  | none=>.bad
 | .str z=>if z.length≤lim then .ok (.str (Txt.slice z lo hi)) S else .bad
 | _=>.bad
theorem RVs.cut {K:W.Frag}{H:Hp}{μ:List Addr}{ds:List D}{vs:List V} (r:RVs K H μ ds vs) (lo hi:Option Int):RVs K H μ (cutD ds lo hi) (cutV vs lo hi):=by
 unfold cutD cutV
 rw [r.len]
 exact (r.drop _).take _
theorem ss_sl:SlS X.K (slAnyR X) oSl:=by
 intro x lo hi S d S' H μ v Q e sr rx h
 unfold oSl at e
 split at e
 ·cases e
  unfold RV at rx
  obtain ⟨p,vs,rfl,q,rr⟩:=rx
  exact ⟨_,sl_tup2,p,vs,rfl,q,fun p2 H1 sm sq=>h.oldT sr sm sq (rr.cut lo hi)⟩
 ·split at e
  ·rename_i xs e1
   cases e
   unfold RV at rx
   obtain ⟨a,rfl,hm⟩:=rx
   obtain ⟨vs,q,rr⟩:=sr.sq hm e1
   exact ⟨_,sl_list,a,vs,rfl,q,fun p hp=>h.newL sr hp (rr.cut lo hi)⟩
  ·cases e
 ·split at e
  ·rename_i hl
   cases e
   unfold RV at rx; subst rx
   exact ⟨_,sl_str,_,rfl,lim_le hl,h.self sr rv_str⟩
  ·cases e
 ·cases e
noncomputable def fLen:List D→M D:=fun xs S=>match xs with
 | [.str x]=>if x.length≤lim then .ok (.int x.length) S else .bad
 | [.dct n]=>.bad
 | [x]=>match seqAt S x with
  | some ys=>.ok (.int ys.length) S
  | none=>.bad
 | _=>.bad
theorem RVs.one {K:W.Frag}{H:Hp}{μ:List Addr}{d:D}{vs:List V} (h:RVs K H μ [d] vs):∃ v,vs=[v]∧RV K H μ d v:=by
 obtain ⟨v,ws,rfl,r1,r2⟩:=h.cons_inv
 rw [r2.nil_inv]
 exact ⟨v,rfl,r1⟩
theorem RVs.two {K:W.Frag}{H:Hp}{μ:List Addr}{d e:D}{vs:List V} (h:RVs K H μ [d,e] vs):∃ v u,vs=[v,u]∧RV K H μ d v∧RV K H μ e u:=by
 obtain ⟨v,ws,rfl,r1,r2⟩:=h.cons_inv
 obtain ⟨u,rfl,r3⟩:=r2.one
 exact ⟨v,u,rfl,r1,r3⟩
theorem cs_len:CallS X.K (cAny X (.builtin "len")) fLen:=by
 intro xs S d S' H μ vs Q e sr rx h
 unfold fLen at e
 split at e
 ·split at e
  ·rename_i hl; cases e
   obtain ⟨v,rfl,r⟩:=rx.one
   unfold RV at r; subst r
   exact ⟨_,call_len_str,_,rfl,lim_le hl,h.self sr rv_int⟩
  ·cases e
 ·cases e
 ·split at e
  ·rename_i ys e1
   cases e
   obtain ⟨v,rfl,r⟩:=rx.one
   obtain ⟨a,vs,rfl,hq,rr⟩:=sr.seq r e1
   exact ⟨_,call_len_seq,a,vs,rfl,hq,by rw [← rr.len]; exact h.self sr rv_int⟩
  ·cases e
 ·cases e
noncomputable def fMin:List D→M D:=fun xs S=>match xs with
 | [.int i,.int j]=>.ok (.int (if j<i then j else i)) S
 | _=>.bad
noncomputable def fMax:List D→M D:=fun xs S=>match xs with
 | [.int i,.int j]=>.ok (.int (if j>i then j else i)) S
 | _=>.bad
theorem cs_min (hc:X.calm=true):CallS X.K (cAny X (.builtin "min")) fMin:=by
 intro xs S d S' H μ vs Q e sr rx h
 unfold fMin at e
 split at e
 ·cases e
  obtain ⟨v,u,rfl,r1,r2⟩:=rx.two
  unfold RV at r1 r2; subst r1 r2
  exact ⟨_,call_min2 hc,_,_,rfl,h.self sr rv_int⟩
 ·cases e
theorem cs_max (hc:X.calm=true):CallS X.K (cAny X (.builtin "max")) fMax:=by
 intro xs S d S' H μ vs Q e sr rx h
 unfold fMax at e
 split at e
 ·cases e
  obtain ⟨v,u,rfl,r1,r2⟩:=rx.two
  unfold RV at r1 r2; subst r1 r2
  exact ⟨_,call_max2 hc,_,_,rfl,h.self sr rv_int⟩
 ·cases e
noncomputable def fList:List D→M D:=fun xs S=>match xs with
 | [x]=>match seqAt S x with
  | some ys=>.ok (.lst S.length) (S++[.lst ys])
  | none=>.bad
 | _=>.bad
theorem cs_list:CallS X.K (cAny X (.type "list")) fList:=by
 intro xs S d S' H μ vs Q e sr rx h
 unfold fList at e
 split at e
 ·split at e
  ·rename_i ys e1
   cases e
   obtain ⟨v,rfl,r⟩:=rx.one
   obtain ⟨a,vs,rfl,hq,rr⟩:=sr.seq r e1
   exact ⟨_,call_list_of,a,vs,rfl,hq,fun l hl=>h.newL sr hl rr⟩
  ·cases e
 ·cases e
noncomputable def fTuple:List D→M D:=fun xs S=>match xs with
 | [.tup ys]=>.ok (.tup ys) S
 | [.lst n]=>match lstAt S n with
  | some ys=>.ok (.tup ys) S
  | none=>.bad
 | _=>.bad
theorem cs_tuple:CallS X.K (cAny X (.type "tuple")) fTuple:=by
 intro xs S d S' H μ vs Q e sr rx h
 unfold fTuple at e
 split at e
 ·cases e
  obtain ⟨v,rfl,r⟩:=rx.one
  have r':=r
  unfold RV at r'; obtain ⟨p,ws,rfl,q,rr⟩:=r'
  exact ⟨_,call_tuple_of,p,ws,rfl,.inr ⟨SqT.of q,h.self sr r⟩⟩
 ·split at e
  ·rename_i ys e1
   cases e
   obtain ⟨v,rfl,r⟩:=rx.one
   unfold RV at r; obtain ⟨a,rfl,hm⟩:=r
   obtain ⟨ws,q,rr⟩:=sr.sq hm e1
   exact ⟨_,call_tuple_of,a,ws,rfl,.inl ⟨q,fun l hl=>h.newT sr hl rr⟩⟩
  ·cases e
 ·cases e
noncomputable def fInt:List D→M D:=fun xs S=>match xs with
 | [.int i]=>.ok (.int i) S
 | [.bl b]=>.ok (.int (if b then 1 else 0)) S
 | [.str z]=>if z.length≤640 then (match PySem.intText? z with | some n=>.ok (.int n) S | none=>.bad) else .bad
 | _=>.bad
theorem cs_int:CallS X.K (cAny X (.type "int")) fInt:=by
 intro xs S d S' H μ vs Q e sr rx h
 unfold fInt at e
 split at e
 ·cases e
  obtain ⟨v,rfl,r⟩:=rx.one
  unfold RV at r; subst r
  exact ⟨_,call_int1,.inl ⟨_,rfl,h.self sr rv_int⟩⟩
 ·cases e
  obtain ⟨v,rfl,r⟩:=rx.one
  unfold RV at r; subst r
  exact ⟨_,call_int1,.inr ⟨_,rfl,h.self sr rv_int⟩⟩
 ·split at e
  ·rename_i hl
   split at e
   ·rename_i n hn
    cases e
    obtain ⟨v,rfl,r⟩:=rx.one
    unfold RV at r; subst r
    exact ⟨_,call_intS,_,_,rfl,hn,hl,h.self sr rv_int⟩
   ·cases e
  ·cases e
 ·cases e
noncomputable def dictK (S:Store) (n:Nat):Option String:=match S[n]? with
 | some (.dk _)=>some "dict"
 | _=>none
noncomputable def kindD (S:Store):D→Option String
 | .non=>some "NoneType"
 | .bl _=>some "bool"
 | .int _=>some "int"
 | .str _=>some "str"
 | .tup _=>some "tuple"
 | .lst n=>if (lstAt S n).isSome then some "list" else none
 | .dct n=>dictK S n
 | _=>none
noncomputable def fInst:List D→M D:=fun xs S=>match xs with
 | [x,.ty T]=>match kindD S x with
  | some t=>if T∈["bool","int","tuple","list","str","dict"] then .ok (.bl (kOf t T)) S else .bad
  | none=>.bad
 | _=>.bad
theorem kind_ok {K:W.Frag}{H:Hp}{μ:List Addr}{S:Store}{x:D}{v:V}{t:String} (sr:SR K μ S H) (e:kindD S x=some t) (r:RV K H μ x v):Ty2 K H v t∧t∈["NoneType","bool","int","str","tuple","list","dict"]:=by
 cases x with
 | non=>cases e; unfold RV at r; subst r; exact ⟨.non,by decide⟩
 | bl b=>cases e; unfold RV at r; subst r; exact ⟨.bl b,by decide⟩
 | int i=>cases e; unfold RV at r; subst r; exact ⟨.int i,by decide⟩
 | str i=>cases e; unfold RV at r; subst r; exact ⟨.str i,by decide⟩
 | tup xs=>cases e; unfold RV at r; obtain ⟨p,vs,rfl,q,_⟩:=r; exact ⟨.tup (SqT.of q),by decide⟩
 | lst n =>
  have e:(if (lstAt S n).isSome then some "list" else none)=some t:=e
  split at e
  ·rename_i hs
   cases e
   obtain ⟨xs,hx⟩:=Option.isSome_iff_exists.mp hs
   unfold RV at r; obtain ⟨a,rfl,hm⟩:=r
   obtain ⟨vs,q,_⟩:=sr.sq hm hx
   exact ⟨.lst q,by decide⟩
  ·cases e
 | dct n =>
  have e:dictK S n=some t:=e
  unfold dictK at e
  split at e
  ·rename_i kvs ho
   cases e
   unfold RV at r; obtain ⟨a,rfl,hm⟩:=r
   obtain ⟨ws,hw,_⟩:=sr.get hm ho
   exact ⟨.dk hw,by decide⟩
  ·cases e
 | ty n=>cases e
 | rol n=>cases e
 | xc _=>cases e
theorem cs_inst:CallS X.K (cAny X (.builtin "isinstance")) fInst:=by
 intro xs S d S' H μ vs Q e sr rx h
 unfold fInst at e
 split at e
 ·rename_i x T
  split at e
  ·rename_i t e1
   split at e
   ·rename_i hT
    cases e
    obtain ⟨v,u,rfl,r1,r2⟩:=rx.two
    unfold RV at r2; subst r2
    obtain ⟨k1,k2⟩:=kind_ok sr e1 r1
    exact ⟨_,call_isinst2,v,t,T,_,rfl,k1,kit_all2 X.K t k2 T hT,h.self sr rv_bl⟩
   ·cases e
  ·cases e
 ·cases e
noncomputable def boolsOf:List D→Option (List Bool)
 | []=>some []
 | .bl b::r=>(boolsOf r).map (b::·)
 | _::_=>none
theorem boolsOf_vs {K:W.Frag}{H:Hp}{μ:List Addr}:∀ {ds:List D}{ns:List Bool}{vs:List V},boolsOf ds=some ns→RVs K H μ ds vs→vs=ns.map V.bl
 | [],ns,vs,e,r=>by cases e; rw [r.nil_inv]; rfl
 | .bl i::ds,ns,vs,e,r=>by
  obtain ⟨v,ws,rfl,r1,r2⟩:=r.cons_inv
  unfold boolsOf at e
  cases q:boolsOf ds with
  | none=>rw [q] at e; cases e
  | some ms =>
   rw [q] at e; cases e
   unfold RV at r1; subst r1
   rw [boolsOf_vs q r2]; rfl
 | .non::ds,ns,vs,e,r=>by cases e
 | .int _::ds,ns,vs,e,r=>by cases e
 | .str _::ds,ns,vs,e,r=>by cases e
 | .ty _::ds,ns,vs,e,r=>by cases e
 | .tup _::ds,ns,vs,e,r=>by cases e
 | .lst _::ds,ns,vs,e,r=>by cases e
 | .dct _::ds,ns,vs,e,r=>by cases e
 | .rol _::ds,ns,vs,e,r=>by cases e
 | .xc _::ds,ns,vs,e,r=>by cases e
noncomputable def fBools (g:List Bool→Bool):List D→M D:=fun xs S=>match xs with
 | [.tup ys]=>match intsOf ys with
  | some ns=>.ok (.bl (g (ns.map (· != 0)))) S
  | none=>.bad
 | [.lst n]=>match (lstAt S n).bind boolsOf with
  | some bs=>.ok (.bl (g bs)) S
  | none=>.bad
 | _=>.bad
theorem cs_bools {id:String}{g:List Bool→Bool} (hr:CallR X (.builtin id) (fun vs H Q=>∃ (p:Addr) (bs:List Bool),vs=[.ref p]∧SqL X.K H p (bs.map V.bl)∧Q (.bl (g bs)) H)) (hr2:CallR X (.builtin id) (fun vs H Q=>∃ (p:Addr) (ns:List Int),vs=[.ref p]∧SqT X.K H p (ns.map V.int)∧Q (.bl (g (ns.map (· != 0)))) H)):CallS X.K (cAny X (.builtin id)) (fBools g):=by
 intro xs S d S' H μ vs Q e sr rx h
 unfold fBools at e
 split at e
 ·split at e
  ·rename_i ns e1
   cases e
   obtain ⟨v,rfl,r⟩:=rx.one
   unfold RV at r; obtain ⟨a,ws,rfl,q,rr⟩:=r
   have z:=intsOf_vs e1 rr
   subst z
   exact ⟨_,hr2,a,ns,rfl,SqT.of q,h.self sr rv_bl⟩
  ·cases e
 ·split at e
  ·rename_i bs e1
   cases e
   obtain ⟨ys,e2,e3⟩:=Option.bind_eq_some_iff.mp e1
   obtain ⟨v,rfl,r⟩:=rx.one
   unfold RV at r; obtain ⟨a,rfl,hm⟩:=r
   obtain ⟨ws,q,rr⟩:=sr.sq hm e2
   have z:=boolsOf_vs e3 rr
   subst z
   exact ⟨_,hr,a,bs,rfl,q,h.self sr rv_bl⟩
  ·cases e
 ·cases e
theorem CallR.imp {f:Value}{r r':List V→Hp→VK→Prop} (h:CallR X f r) (w:∀ vs H Q,r' vs H Q→r vs H Q):CallR X f r':=fun pins s σ H xs us Q I rv q=>h pins s σ H xs us Q I rv (w _ _ _ q)
theorem cs_all (hc:X.calm=true):CallS X.K (cAny X (.builtin "all")) (fBools fun bs=>bs.all id):=cs_bools (call_allL hc) ((call_allT hc).imp fun vs H Q ⟨p,ns,h1,h2,h3⟩=>⟨p,ns,h1,h2,by rw [List.all_map] at h3; exact h3⟩)
theorem cs_any (hc:X.calm=true):CallS X.K (cAny X (.builtin "any")) (fBools fun bs=>bs.any id):=cs_bools (call_anyL hc) ((call_anyT hc).imp fun vs H Q ⟨p,ns,h1,h2,h3⟩=>⟨p,ns,h1,h2,by rw [List.any_map] at h3; exact h3⟩)
def MtS (K:W.Frag) (T:String) (r:V→List V→Hp→VK→Prop) (o:D→List D→M D):Prop:=∀ x xs S d S' H μ v vs Q,o x xs S=.ok d S'→SR K μ S H→RV K H μ x v→RVs K H μ xs vs→Yld K μ H d S' Q→r v vs H Q
noncomputable def tyOk (T:String) (x:D) (S:Store):Bool:=match x with
 | .lst n=>decide (T = "list")&&(lstAt S n).isSome
 | .dct n=>decide (T = "dict")&&(match S[n]? with | some (.dk _)=>true | some (.dt _)=>true | _=>false)
 | .int _=>decide (T = "int")
 | .str _=>decide (T = "str")
 | _=>false
theorem tyOk_v {K:W.Frag}{H:Hp}{μ:List Addr}{S:Store}{T:String}{x:D}{v:V} (sr:SR K μ S H) (h:tyOk T x S=true) (r:RV K H μ x v):tyV K T v H:=by
 unfold tyOk at h
 split at h
 ·simp only [Bool.and_eq_true,decide_eq_true_eq] at h
  obtain ⟨h1,h2⟩:=h
  obtain ⟨xs,hx⟩:=Option.isSome_iff_exists.mp h2
  unfold RV at r; obtain ⟨a,rfl,hm⟩:=r
  obtain ⟨vs,q,_⟩:=sr.sq hm hx
  exact .inl ⟨h1,vs,q⟩
 ·simp only [Bool.and_eq_true,decide_eq_true_eq] at h
  obtain ⟨h1,h2⟩:=h
  unfold RV at r; obtain ⟨a,rfl,hm⟩:=r
  split at h2
  ·rename_i kvs ho
   obtain ⟨ws,q,_⟩:=sr.get hm ho
   exact .inr (.inr (.inl ⟨h1,.inl ⟨ws,q⟩⟩))
  ·rename_i kvs ho
   obtain ⟨ws,q,_⟩:=sr.get hm ho
   exact .inr (.inr (.inl ⟨h1,.inr ⟨ws,q⟩⟩))
  ·cases h2
 ·unfold RV at r; subst r
  exact (of_decide_eq_true h:T = "int")
 ·unfold RV at r; subst r
  exact (of_decide_eq_true h:T = "str")
 ·cases h
noncomputable def cMeth (T:String) (o:D→List D→M D) (a:C) (as:CA):C:=fun ρ=>bnd (a ρ) fun x S=>if tyOk T x S then bnd (as ρ) (fun xs=>o x xs) S else .bad
variable {o e:Expr}{es:List Expr}{co:C}{ca:CA}{name:Str}{apos cpos:Pos}{T id:String}{m:D→List D→M D}
theorem se_meth (pa:PlainAttrs T) (slot:Slot T name id) (hty:typeOf (.builtin id)=pure (.type "method_descriptor")) (hm:MtS X.K T (mtAnyR X id) m) (ho:PE X o (tOf X.K co)) (ha:PA X (e::es) (tOfA X.K ca))
  (hbase:attributeBase o name X.env (eval o X.env)=eval o X.env)
  (hfew:((backTo cpos (starEach (e::es) X.env)).all (fun x=>!x.1)&&(backToKw cpos (keywordEach [] X.env)).all (fun x=>x.1.isSome)
   && decide ((e::es).length+([]:List Keyword).length+(if ([]:List Keyword).isEmpty then 0 else 1)<30))=true)
  (hline:(apos.endLine == cpos.line)=true) (hs:starEach (e::es) X.env=(false,eval e X.env)::starEach es X.env) (hplain:(backTo cpos (starEach es X.env)).any (·.1)=false) :
  PE X (.Call (.Attribute o name apos) (e::es) [] cpos) (tOf X.K (cMeth T m co ca)):=(pe_bm pa slot hty mtAny ho ha hbase hfew hline hs hplain).weak (by
 rintro σ H Q ⟨μ,ρ,S,d,S',sr,re,e,y⟩
 obtain ⟨x,S1,e1,e⟩:=bnd_ok e
 split at e
 ·rename_i hk
  obtain ⟨xs,S2,e2,e⟩:=bnd_ok e
  refine ⟨μ,ρ,S,x,S1,sr,re,e1,fun v H1 μ1 sr1 st1 r1=>⟨tyOk_v sr1 hk r1,μ1,ρ,S1,xs,S2,sr1,re.up st1,e2,fun vs H2 μ2 sr2 st2 r2=>?_⟩⟩
  exact hm x xs S2 d S' H2 μ2 v vs Q e sr2 (RV.up st2.tk st2.ext _ _ r1) r2 (y.shift (st1.trans st2 sr2.nd))
 ·cases e)
noncomputable def mList (g:List D→List D→Option (List D × D)):D→List D→M D:=fun x xs S=>match x with
 | .lst n=>match S[n]? with
  | some (.lst ys)=>match g ys xs with
   | some (zs,d)=>.ok d (S.set n (.lst zs))
   | none=>.bad
  | _=>.bad
 | _=>.bad
theorem SR.putL {K:W.Frag}{H:Hp}{μ:List Addr}{S:Store}{n:Nat}{p:Addr}{vs ws:List V}{zs:List D} (sr:SR K μ S H) (hn:μ[n]?=some p) (hp:H p=some (.lst vs)) (r:RVs K H μ zs ws):SR K μ (S.set n (.lst zs)) (upd H p (.lst ws))∧Step K μ μ H (upd H p (.lst ws)) :=
 sr.put hn hp (fun _ z=>by cases z) (fun _ _ z=>by cases z) ⟨ws,upd_same,RVs.up (tf_lst hp) ⟨[],by simp⟩ _ _ r⟩
theorem ms_list {g:List D→List D→Option (List D × D)}
  (h:∀ (K:W.Frag) H μ ys xs zs d vs us,g ys xs=some (zs,d)→RVs K H μ ys vs→RVs K H μ xs us→∃ ws w,RVs K H μ zs ws∧RV K H μ d w∧∀ (p:Addr) (Q:VK),H p=some (.lst vs)→Q w (upd H p (.lst ws))→mtAnyR X id (.ref p) us H Q):MtS X.K "list" (mtAnyR X id) (mList g):=by
 intro x xs S d S' H μ v us Q e sr rx rs y
 unfold mList at e
 split at e
 ·rename_i n
  split at e
  ·rename_i ys ho
   split at e
   ·rename_i zs d' hg
    cases e
    unfold RV at rx; obtain ⟨p,rfl,hm⟩:=rx
    obtain ⟨vs,hp,rr⟩:=sr.lst hm ho
    obtain ⟨ws,w,r1,r2,fin⟩:=h X.K H μ ys xs zs d vs us hg rr rs
    obtain ⟨s1,s2⟩:=sr.putL hm hp r1
    exact fin p Q hp (y w _ μ s1 s2 (RV.up s2.tk s2.ext _ _ r2))
   ·cases e
  ·cases e
 ·cases e
noncomputable def gAppend:List D→List D→Option (List D × D):=fun ys xs=>match xs with
 | [x]=>if ys.length<lim then some (ys++[x],.non) else none
 | _=>none
theorem ms_append:MtS X.K "list" (mtAnyR X "list.append") (mList gAppend):=ms_list fun K H μ ys xs zs d vs us e r1 r2=>by
 unfold gAppend at e
 split at e
 ·split at e
  ·rename_i hl; cases e
   obtain ⟨v,rfl,r3⟩:=r2.one
   exact ⟨vs++[v],.non,r1.append (.cons r3 .nil),rv_non,fun p Q hp q=>⟨_,mt_append,p,vs,v,rfl,rfl,hp,by rw [← r1.len]; exact lim_lt hl,q⟩⟩
  ·cases e
 ·cases e
noncomputable def gInsert:List D→List D→Option (List D × D):=fun ys xs=>match xs with
 | [.int i,x]=>if ys.length<1000∧0≤i∧i.toNat≤ys.length then some (ys.take i.toNat++x::ys.drop i.toNat,.non) else none
 | _=>none
theorem ms_insert:MtS X.K "list" (mtAnyR X "list.insert") (mList gInsert):=ms_list fun K H μ ys xs zs d vs us e r1 r2=>by
 unfold gInsert at e
 split at e
 ·rename_i i x
  split at e
  ·rename_i hl; cases e
   obtain ⟨h1,h2,h3⟩:=hl
   obtain ⟨v,u,rfl,r3,r4⟩:=r2.two
   unfold RV at r3; subst r3
   have ei:i=((i.toNat:Nat):Int):=by omega
   exact ⟨vs.take i.toNat++u::vs.drop i.toNat,.non,(r1.take _).append (.cons r4 (r1.drop _)),rv_non,fun p Q hp q=>⟨_,mt_insert,p,vs,i.toNat,u,rfl,by rw [← ei],hp,by rw [← r1.len]; exact h1,by rw [← r1.len]; exact h3,q⟩⟩
  ·cases e
 ·cases e
noncomputable def oSet:D→D→D→Store→Option Store:=fun x i v S=>match x with
 | .lst n=>match S[n]?,i with
  | some (.lst ys),.int k=>match ixN ys.length k with
   | some j=>some (S.set n (.lst (ys.set j v)))
   | none=>none
  | _,_=>none
 | .dct n=>match S[n]?,keyOf i with
  | some (.dk kvs),some k=>if kvs.length<lim then some (S.set n (.dk (putD kvs k v))) else none
  | _,_=>none
 | _=>none
theorem set_dict (hu:X.A.units+1<cLine):PSet X (fun o i v H Q=>∃ a H4,o=.ref a∧DPut H a i v H4∧Q H4):=by
 intro pins s σ H o i v ov iv u Q I ro ri rv h
 obtain ⟨a,H4,rfl,g,q⟩:=h
 obtain rfl:ov=Value.ref a:=ro
 exact d_setItem hu I g ri rv fun s4 I4=>⟨H4,I4,q⟩
theorem ps_sets (hu:X.A.units+1<cLine) {x i v:D}{S S':Store}{H:Hp}{μ:List Addr}{ov iv vv:V}{Q:Hp→Prop} (e:oSet x i v S=some S') (sr:SR X.K μ S H) (rx:RV X.K H μ x ov) (ri:RV X.K H μ i iv) (rv:RV X.K H μ v vv) (y:∀ H' ,SR X.K μ S' H'→Step X.K μ μ H H'→Q H'):setAnyR X ov iv vv H Q:=by
 unfold oSet at e
 split at e
 ·split at e
  ·rename_i ys k ho
   split at e
   ·rename_i j hj
    cases e
    unfold RV at rx ri; obtain ⟨p,rfl,hm⟩:=rx; subst ri
    obtain ⟨vs,hp,rr⟩:=sr.lst hm ho
    obtain ⟨s1,s2⟩:=sr.putL hm hp (rr.set rv j)
    exact ⟨_,set_list,p,vs,k,j,rfl,rfl,hp,by rw [← rr.len]; exact hj,y _ s1 s2⟩
   ·cases e
  ·cases e
 ·split at e
  ·rename_i kvs k ho hk
   split at e
   ·rename_i hl
    cases e
    unfold RV at rx; obtain ⟨p,rfl,hm⟩:=rx
    obtain ⟨ws,hp,rr⟩:=sr.get hm ho
    have z:=keyOf_v hk ri
    subst z
    have tk:TF X.K H (upd H p (.dK (putK ws k vv))):=tf_upd hp (fun _ z=>by cases z) (fun _ _ z=>by cases z)
    obtain ⟨s1,s2⟩:=sr.put (o:=.dK (putK ws k vv)) (o':=.dk (putD kvs k v)) hm hp (fun _ z=>by cases z) (fun _ _ z=>by cases z) ⟨_,upd_same,(rr.put rv).up tk ⟨[],by simp⟩⟩
    exact ⟨_,set_dict hu,p,_,rfl,DPut.k hp (by rw [← rr.len]; exact lim_lt hl),y _ s1 s2⟩
   ·cases e
  ·cases e
 ·cases e
end
open PySem PySem.Spec PyProof.Rows
inductive RS where
 | bad | nx (ρ:Env1) (S:Store) | rt (d:D) (S:Store) | bk (ρ:Env1) (S:Store) | ct (ρ:Env1) (S:Store) | er (c:Str) (S:Store)
noncomputable abbrev CS:=Env1→Store→RS
noncomputable def EX (X:Cx):XK:=fun C _ H'=>(∀ (pins:List (Addr × Obj)) (σ:St) (H:Hp) (s:Shared) (e T:Addr) (s':Shared),Inv X pins σ H s→Trc s'.heap e T C→s.heap.get? e=none→s.heap.get? T=none→s'.os=s.os→AllBare s'.gens→Un (frs X.stack) [] H H' s.heap s'.heap→HOk X.prog X.w H' s'.heap→H' e=none→H' T=none→X.xe (.ref e) s') ∧
 ∀ (pins:List (Addr × Obj)) (σ:St) (s:Shared) (h':Heap) (e D:Addr) (vs:List Value),C=.ref D→Inv X pins σ H' s→Heap.MadeExcOf s.heap h' e (.ref D) vs→X.xe (.ref e) { s with heap:=h' }
theorem ex_passes {X:Cx}:Passes (CX1 X.prog X.w) X (EX X):=by
 intro pins σ H s ev s' I h
 obtain ⟨e,T,C,H',rfl,tr,ne,nT,os,bare,un,hok,he,hT,hE⟩:=h
 exact hE.1 pins σ H s e T s' I tr ne nT os bare un hok he hT
theorem ex_new {X:Cx}:PassNew X (EX X):=fun pins σ H s h' e C vs I mk hE=>hE.2 pins σ s h' e C vs rfl I mk
theorem ex_own {X:Cx}{E:XK} (o:Own1 X E) {C:Value}{H':Hp} (h:E C none H'):EX X C none H':=by
 refine ⟨fun pins σ H s e T s' I tr ne nT os bare un hok he hT=>own_passes o pins σ H s _ s' I ⟨e,T,C,H',rfl,tr,ne,nT,os,bare,un,hok,he,hT,h⟩,fun pins σ s h' e D vs eq I mk=>?_⟩
 subst eq
 exact own_new o pins σ H' s h' e D vs I mk h
def YldE (X:Cx) (μ:List Addr) (H:Hp) (c:Str) (S':Store):Prop:=∀ H' μ',SR X.K μ' S' H'→Step X.K μ μ' H H'→∀ C,X.mg c=some (.ref C)→EX X (.ref C) none H'
theorem YldE.shift {X:Cx}{μ μ1:List Addr}{H H1:Hp}{c:Str}{S':Store} (h:YldE X μ H c S') (st:Step X.K μ μ1 H H1):YldE X μ1 H1 c S':=fun H' μ' sr s2=>h H' μ' sr (st.trans s2 sr.nd)
noncomputable def PostS (X:Cx) (μ:List Addr) (H:Hp) (E:Ends):RS→Prop
 | .bad=>False
 | .er c S'=>YldE X μ H c S'
 | .nx ρ' S'=>∀ σ' H' μ',SR X.K μ' S' H'→Step X.K μ μ' H H'→RE X.K H' μ' ρ' σ'→E.nx σ' H'
 | .bk ρ' S'=>∀ σ' H' μ',SR X.K μ' S' H'→Step X.K μ μ' H H'→RE X.K H' μ' ρ' σ'→E.bk σ' H'
 | .ct ρ' S'=>∀ σ' H' μ',SR X.K μ' S' H'→Step X.K μ μ' H H'→RE X.K H' μ' ρ' σ'→E.ct σ' H'
 | .rt d S'=>Yld X.K μ H d S' E.rt
inductive tOfS (X:Cx) (c:CS) (E:Ends) (σ:St) (H:Hp):Prop
 | mk (μ:List Addr) (ρ:Env1) (S:Store) (sr:SR X.K μ S H) (re:RE X.K H μ ρ σ) (y:PostS X μ H E (c ρ S))
theorem PostS.shift {X:Cx}{μ μ1:List Addr}{H H1:Hp}{E:Ends}{r:RS} (h:PostS X μ H E r) (st:Step X.K μ μ1 H H1):PostS X μ1 H1 E r:=by
 cases r with
 | bad=>exact h
 | er _ _=>exact YldE.shift h st
 | nx ρ S=>exact fun σ' H' μ' sr s2 re=>h σ' H' μ' sr (st.trans s2 sr.nd) re
 | bk ρ S=>exact fun σ' H' μ' sr s2 re=>h σ' H' μ' sr (st.trans s2 sr.nd) re
 | ct ρ S=>exact fun σ' H' μ' sr s2 re=>h σ' H' μ' sr (st.trans s2 sr.nd) re
 | rt d S=>exact Yld.shift h st
noncomputable def sPass:CS:=fun ρ S=>.nx ρ S
noncomputable def sBrk:CS:=fun ρ S=>.bk ρ S
noncomputable def sCnt:CS:=fun ρ S=>.ct ρ S
noncomputable def sBad:CS:=fun _ _=>.bad
noncomputable def sRetN:CS:=fun _ S=>.rt .non S
noncomputable def sRet (c:C):CS:=fun ρ S=>match c ρ S with
 | .ok d S'=>.rt d S'
 | .bad=>.bad
 | .er _ _=>.bad
noncomputable def sExpr (c:C):CS:=fun ρ S=>match c ρ S with
 | .ok _ S'=>.nx ρ S'
 | .bad=>.bad
 | .er _ _=>.bad
noncomputable def sSeq (a b:CS):CS:=fun ρ S=>match a ρ S with
 | .nx ρ' S'=>b ρ' S'
 | r=>r
noncomputable def sIf (t:CT) (a b:CS):CS:=fun ρ S=>match t ρ S with
 | .ok k S'=>if k then a ρ S' else b ρ S'
 | .bad=>.bad
 | .er _ _=>.bad
noncomputable abbrev G:=D→Env1→M Env1
noncomputable def sAsg (c:C) (g:G):CS:=fun ρ S=>match c ρ S with
 | .ok d S'=>match g d ρ S' with
  | .ok ρ' S2=>.nx ρ' S2
  | .bad=>.bad
  | .er _ _=>.bad
 | .bad=>.bad
 | .er _ _=>.bad
section
variable {X:Cx}{e a b tg:Expr}{ce ca cb:C}{pos:Pos}
theorem ss_pass:PS X (.Pass pos) (tOfS X sPass):=ps_pass.weak fun E σ H ⟨μ,ρ,S,sr,re,p⟩=>p σ H μ sr (Step.refl _ _ _) re
theorem ss_brk:PS X (.Break pos) (tOfS X sBrk):=ps_break.weak fun E σ H ⟨μ,ρ,S,sr,re,p⟩=>p σ H μ sr (Step.refl _ _ _) re
theorem ss_cnt:PS X (.Continue pos) (tOfS X sCnt):=ps_continue.weak fun E σ H ⟨μ,ρ,S,sr,re,p⟩=>p σ H μ sr (Step.refl _ _ _) re
theorem ss_bad {st:Stmt}:PS X st (tOfS X sBad):=ps_never.weak fun E σ H ⟨μ,ρ,S,sr,re,p⟩=>p
theorem ss_retN:PS X (.Return none pos) (tOfS X sRetN):=ps_retN.weak fun E σ H ⟨μ,ρ,S,sr,re,p⟩=>p _ H μ sr (Step.refl _ _ _) rv_non
theorem ss_ret (he:PE X e (tOf X.K ce)):PS X (.Return (some e) pos) (tOfS X (sRet ce)):=(ps_ret he).weak (by
 rintro E σ H ⟨μ,ρ,S,sr,re,p⟩
 unfold sRet at p
 split at p
 ·rename_i d S' h
  exact ⟨μ,ρ,S,d,S',sr,re,h,p⟩
 ·exact False.elim p
 ·exact False.elim p)
theorem ss_expr (he:PE X e (tOf X.K ce)) (hs:swapsWith e none pos.line X.env=pure false):PS X (.Expr e pos) (tOfS X (sExpr ce)):=(ps_expr he hs).weak (by
 rintro E σ H ⟨μ,ρ,S,sr,re,p⟩
 unfold sExpr at p
 split at p
 ·rename_i d S' h
  exact ⟨μ,ρ,S,d,S',sr,re,h,fun v H1 μ1 sr1 st1 r1=>p σ H1 μ1 sr1 st1 (re.up st1)⟩
 ·exact False.elim p
 ·exact False.elim p)
theorem sss_nil:PSs X [] (tOfS X sPass):=pss_nil.weak fun E σ H ⟨μ,ρ,S,sr,re,p⟩=>p σ H μ sr (Step.refl _ _ _) re
theorem sss_cons {st:Stmt}{rest:List Stmt}{c1 c2:CS} (h1:PS X st (tOfS X c1)) (h2:PSs X rest (tOfS X c2)):PSs X (st::rest) (tOfS X (sSeq c1 c2)):=(pss_cons h1 h2).weak (by
 rintro E σ H ⟨μ,ρ,S,sr,re,p⟩
 refine ⟨μ,ρ,S,sr,re,?_⟩
 unfold sSeq at p
 revert p
 cases c1 ρ S with
 | nx ρ' S'=>exact fun p σ' H' μ' sr' st' re'=>⟨μ',ρ',S',sr',re',p.shift st'⟩
 | bad=>exact fun p=>p
 | er _ _=>exact fun p=>p
 | rt _ _=>exact fun p=>p
 | bk _ _=>exact fun p=>p
 | ct _ _=>exact fun p=>p)
theorem ss_if {t:Expr}{ct:CT}{as bs:List Stmt}{c1 c2:CS} (ht:PT X t (tOfT X.K ct)) (h1:PSs X as (tOfS X c1)) (h2:PSs X bs (tOfS X c2)):PS X (.If t as bs pos) (tOfS X (sIf ct c1 c2)):=(ps_if ht h1 h2).weak (by
 rintro E σ H ⟨μ,ρ,S,sr,re,p⟩
 unfold sIf at p
 split at p
 ·rename_i k S' h
  refine ⟨μ,ρ,S,k,S',sr,re,h,fun H1 μ1 sr1 st1=>?_⟩
  cases k with
  | true=>rw [if_pos rfl] at p ⊢; exact ⟨μ1,ρ,S',sr1,re.up st1,p.shift st1⟩
  | false=>rw [if_neg Bool.false_ne_true] at p ⊢; exact ⟨μ1,ρ,S',sr1,re.up st1,p.shift st1⟩
 ·exact False.elim p
 ·exact False.elim p)
inductive tOfG (K:W.Frag) (g:G) (v:V) (σ:St) (H:Hp) (Q:St→Hp→Prop):Prop
 | mk (μ:List Addr) (ρ:Env1) (S:Store) (d:D) (ρ':Env1) (S':Store) (sr:SR K μ S H) (re:RE K H μ ρ σ) (rv:RV K H μ d v) (e:g d ρ S=.ok ρ' S') (y:∀ σ' H' μ',SR K μ' S' H'→Step K μ μ' H H'→RE K H' μ' ρ' σ'→Q σ' H')
theorem PG.weak {t t':TG} (h:PG X tg t) (w:∀ v σ H Q,t' v σ H Q→t v σ H Q):PG X tg t':=fun pins s σ H v u Q I r q=>h pins s σ H v u Q I r (w v σ H Q q)
noncomputable def gN (i:Nat):G:=fun d ρ S=>.ok (ρ.set i (some d)) S
theorem sg_name {i:Nat}{x:Str} (h:PG X (.Name x pos) (gName i)):PG X (.Name x pos) (tOfG X.K (gN i)):=h.weak (by
 rintro v σ H Q ⟨μ,ρ,S,d,ρ',S',sr,re,rv,e,y⟩
 unfold gN at e; cases e
 exact y _ H μ sr (Step.refl _ _ _) (re.set rv i))
noncomputable def gS (co ci:C):G:=fun d ρ=>bnd (co ρ) fun o=>bnd (ci ρ) fun i S=>match oSet o i d S with
 | some S'=>.ok ρ S'
 | none=>.bad
theorem sg_sub (hu:X.A.units+1<cLine) (ho:PE X a (tOf X.K ca)) (hi:PE X b (tOf X.K cb)) (ha:∀ v,assign (.Subscript a b pos) X.env v=(do
   let ov ← holding [v] (eval a X.env)
   let iv ← holding [v,ov] (eval b X.env)
   standAt pos
   holding [v,ov,iv] (setItem ov iv v)
   release [v,ov,iv] [])):PG X (.Subscript a b pos) (tOfG X.K (gS ca cb)):=(pg_sub ho hi setAny ha).weak (by
 rintro v σ H Q ⟨μ,ρ,S,d,ρ',S',sr,re,rv,e,y⟩
 obtain ⟨x,S1,e1,e⟩:=bnd_ok e
 obtain ⟨z,S2,e2,e⟩:=bnd_ok e
 split at e
 ·rename_i S3 e3
  cases e
  refine ⟨μ,ρ,S,x,S1,sr,re,e1,fun ov H1 μ1 sr1 st1 r1=>⟨μ1,ρ,S1,z,S2,sr1,re.up st1,e2,fun iv H2 μ2 sr2 st2 r2=>?_⟩⟩
  have st12:=st1.trans st2 sr2.nd
  refine ps_sets hu e3 sr2 (RV.up st2.tk st2.ext _ _ r1) r2 (RV.up st12.tk st12.ext _ _ rv) fun H3 sr3 st3=>?_
  exact y σ H3 μ2 sr3 (st12.trans st3 sr3.nd) (re.up (st12.trans st3 sr3.nd))
 ·cases e)
noncomputable def gTs:List G→List D→Env1→M Env1
 | [],[]=>fun ρ=>ret ρ
 | g::gs,d::ds=>fun ρ=>bnd (g d ρ) fun ρ1=>gTs gs ds ρ1
 | _,_=>fun _=>bad
noncomputable def gT (gs:List G):G:=fun d ρ=>match d with
 | .tup xs=>gTs gs xs ρ
 | _=>bad
inductive tOfGs (K:W.Frag) (gs:List G) (vs:List V) (σ:St) (H:Hp) (Q:St→Hp→Prop):Prop
 | mk (μ:List Addr) (ρ:Env1) (S:Store) (ds:List D) (ρ':Env1) (S':Store) (sr:SR K μ S H) (re:RE K H μ ρ σ) (rv:RVs K H μ ds vs) (e:gTs gs ds ρ S=.ok ρ' S') (y:∀ σ' H' μ',SR K μ' S' H'→Step K μ μ' H H'→RE K H' μ' ρ' σ'→Q σ' H')
theorem PGs.weak {es:List Expr}{t t':TGs} (h:PGs X es t) (w:∀ v σ H Q,t' v σ H Q→t v σ H Q):PGs X es t':=fun pins s σ H v u Q I r q=>h pins s σ H v u Q I r (w v σ H Q q)
theorem sgs_nil:PGs X [] (tOfGs X.K []):=pgs_nil.weak (by
 rintro v σ H Q ⟨μ,ρ,S,ds,ρ',S',sr,re,rv,e,y⟩
 cases ds with
 | nil =>
  obtain ⟨rfl,rfl⟩:=ret_ok e
  exact ⟨rv.nil_inv,y σ H μ sr (Step.refl _ _ _) re⟩
 | cons d ds=>cases e)
theorem sgs_cons {es:List Expr}{g:G}{gs:List G} (h1:PG X e (tOfG X.K g)) (h2:PGs X es (tOfGs X.K gs)) (hs:(assignEach (e::es) X.env).map (·.2)=assign e X.env::(assignEach es X.env).map (·.2)):PGs X (e::es) (tOfGs X.K (g::gs)):=(pgs_cons h1 h2 hs).weak (by
 rintro v σ H Q ⟨μ,ρ,S,ds,ρ',S',sr,re,rv,e,y⟩
 cases ds with
 | nil=>cases e
 | cons d ds =>
  obtain ⟨ρ1,S1,e1,e⟩:=bnd_ok e
  obtain ⟨u,us,rfl,r1,r2⟩:=rv.cons_inv
  refine ⟨u,us,rfl,μ,ρ,S,d,ρ1,S1,sr,re,r1,e1,fun σ1 H1 μ1 sr1 st1 re1=>?_⟩
  exact ⟨μ1,ρ1,S1,ds,ρ',S',sr1,re1,RVs.up st1.tk st1.ext _ _ r2,e,fun σ2 H2 μ2 sr2 st2 re2=>y σ2 H2 μ2 sr2 (st1.trans st2 sr2.nd) re2⟩)
theorem gTs_len {gs:List G}:∀ {ds:List D}{ρ ρ':Env1}{S S':Store},gTs gs ds ρ S=.ok ρ' S'→ds.length=gs.length:=by
 induction gs with
 | nil=>intro ds ρ ρ' S S' e; cases ds with | nil=>rfl | cons _ _=>cases e
 | cons g gs ih =>
  intro ds ρ ρ' S S' e
  cases ds with
  | nil=>cases e
  | cons d ds =>
   obtain ⟨ρ1,S1,e1,e⟩:=bnd_ok e
   rw [List.length_cons,List.length_cons,ih e]
theorem sg_tup {es:List Expr}{k:Nat}{gs:List G} (hc:X.calm=true) (h:PGs X es (tOfGs X.K gs)) (hn:(assignEach es X.env).length=gs.length) (hst:(assignEach es X.env).findIdx? (·.1)=none):PG X (.Tuple es k pos) (tOfG X.K (gT gs)) :=
 (pg_tup hc h hn hst).weak (by
 rintro v σ H Q ⟨μ,ρ,S,d,ρ',S',sr,re,rv,e,y⟩
 unfold gT at e
 split at e
 ·rename_i xs
  unfold RV at rv
  obtain ⟨p,vs,rfl,q,rr⟩:=rv
  exact ⟨p,vs,rfl,SqT.of q,by rw [← rr.len]; exact gTs_len e,μ,ρ,S,xs,ρ',S',sr,re,rr,e,y⟩
 ·cases e)
theorem ss_asg {g:G} (he:PE X e (tOf X.K ce)) (hg:PG X tg (tOfG X.K g)) (hs:swapsWithSole [tg] e pos.line X.env=pure false) (hw:swappedStores [tg] e X.env=pure none) (h1:(assignEach [tg] X.env).map (·.2)=[assign tg X.env]):PS X (.Assign [tg] e pos) (tOfS X (sAsg ce g)):=(ps_asg he hg hs hw h1).weak (by
 rintro E σ H ⟨μ,ρ,S,sr,re,p⟩
 unfold sAsg at p
 split at p
 ·rename_i d S' h
  split at p
  ·rename_i ρ' S2 h2
   refine ⟨μ,ρ,S,d,S',sr,re,h,fun v H1 μ1 sr1 st1 r1=>⟨μ1,ρ,S',d,ρ',S2,sr1,re.up st1,r1,h2,fun σ2 H2 μ2 sr2 st2 re2=>?_⟩⟩
   exact p σ2 H2 μ2 sr2 (st1.trans st2 sr2.nd) re2
  ·exact False.elim p
  ·exact False.elim p
 ·exact False.elim p
 ·exact False.elim p)
theorem ss_set {i:Nat}{x:Str}{pos':Pos} (h:PS X (.Assign [.Name x pos'] e pos) (tAsg (tOf X.K ce) (gName i))):PS X (.Assign [.Name x pos'] e pos) (tOfS X (sAsg ce (gN i))):=h.weak (by
 rintro E σ H ⟨μ,ρ,S,sr,re,p⟩
 unfold sAsg at p
 split at p
 ·rename_i d S' h
  have e2:gN i d ρ S'=.ok (ρ.set i (some d)) S':=rfl
  rw [e2] at p
  exact ⟨μ,ρ,S,d,S',sr,re,h,fun v H1 μ1 sr1 st1 r1=>p _ H1 μ1 sr1 st1 ((re.up st1).set r1 i)⟩
 ·exact False.elim p
 ·exact False.elim p)
noncomputable def whileS:Nat→CT→CS→CS
 | 0,_,_=>fun _ _=>.bad
 | k+1,t,b=>fun ρ S=>match t ρ S with
  | .ok true S1=>match b ρ S1 with
   | .nx ρ2 S2=>whileS k t b ρ2 S2
   | .ct ρ2 S2=>whileS k t b ρ2 S2
   | .bk ρ2 S2=>.nx ρ2 S2
   | r=>r
  | .ok false S1=>.nx ρ S1
  | .bad=>.bad
  | .er _ _=>.bad
theorem ss_while {t:Expr}{ct:CT}{body:List Stmt}{cb:CS} (k:Nat) (hp:PassesOwn (model X.prog X.w) X.A X.env X.xe) (ht:PT X t (tOfT X.K ct)) (hb:PSs X body (tOfS X cb)):PS X (.While t body [] pos) (tOfS X (whileS k ct cb)):=(ps_while hp ht hb).weak (by
 rintro E σ0 H0 ⟨μ0,ρ0,S0,sr0,re0,p0⟩
 refine ⟨fun m σ H=>∃ μ ρ S,SR X.K μ S H∧Step X.K μ0 μ H0 H∧RE X.K H μ ρ σ∧PostS X μ H E (whileS m ct cb ρ S),⟨k,μ0,ρ0,S0,sr0,Step.refl _ _ _,re0,p0⟩,?_⟩
 rintro m σ H ⟨μ,ρ,S,sr,st,re,p⟩
 cases m with
 | zero=>exact False.elim p
 | succ m =>
  unfold whileS at p
  split at p
  ·rename_i S1 h
   refine ⟨μ,ρ,S,true,S1,sr,re,h,fun H1 μ1 sr1 st1=>?_⟩
   dsimp only
   rw [if_pos rfl]
   refine ⟨fun σ' H'=>∃ μ ρ S,SR X.K μ S H'∧Step X.K μ0 μ H0 H'∧RE X.K H' μ ρ σ'∧PostS X μ H' E (whileS m ct cb ρ S),fun σ' H' h=>⟨m,Nat.lt_succ_self m,h⟩,μ1,ρ,S1,sr1,re.up st1,?_⟩
   have st01:=st.trans st1 sr1.nd
   revert p
   cases cb ρ S1 with
   | nx ρ2 S2=>exact fun p σ2 H2 μ2 sr2 st2 re2=>⟨μ2,ρ2,S2,sr2,st01.trans st2 sr2.nd,re2,p.shift (st1.trans st2 sr2.nd)⟩
   | ct ρ2 S2=>exact fun p σ2 H2 μ2 sr2 st2 re2=>⟨μ2,ρ2,S2,sr2,st01.trans st2 sr2.nd,re2,p.shift (st1.trans st2 sr2.nd)⟩
   | bk ρ2 S2=>exact fun p σ2 H2 μ2 sr2 st2 re2=>p σ2 H2 μ2 sr2 (st1.trans st2 sr2.nd) re2
   | rt d S2=>exact fun p=>Yld.shift p st1
   | bad=>exact fun p=>p
   | er _ _=>exact fun p=>YldE.shift p st1
  ·rename_i S1 h
   refine ⟨μ,ρ,S,false,S1,sr,re,h,fun H1 μ1 sr1 st1=>?_⟩
   dsimp only
   rw [if_neg Bool.false_ne_true]
   exact p σ H1 μ1 sr1 st1 (re.up st1)
  ·exact False.elim p
  ·exact False.elim p)
noncomputable abbrev Watch:=List (Nat × List D)
def okW (w:Watch) (S:Store):Prop:=∀ p∈w,lstAt S p.1=some p.2
noncomputable abbrev CI:=Env1→M (List D × Watch)
structure ItOk (K:W.Frag) (J:It) (items:List D) (w:Watch) (μ0:List Addr) (H0:Hp):Prop where
 go:∀ (i:Nat) H μ S,SR K μ S H→Step K μ0 μ H0 H→okW w S→i<items.length→J.go i H
 yld:∀ (i:Nat) H μ S x H',SR K μ S H→Step K μ0 μ H0 H→okW w S→i<items.length→J.yld i H x H'→∃ d,items[i]?=some d∧SR K μ S H'∧Step K μ μ H H'∧RV K H' μ d x
 stop:∀ H μ S,SR K μ S H→Step K μ0 μ H0 H→okW w S→J.stop items.length H
inductive tOfI (K:W.Frag) (it:CI) (σ:St) (H:Hp) (R:It→Hp→Prop):Prop
 | mk (μ:List Addr) (ρ:Env1) (S:Store) (items:List D) (w:Watch) (S':Store) (sr:SR K μ S H) (re:RE K H μ ρ σ) (e:it ρ S=.ok (items,w) S') (y:∀ J H' μ',SR K μ' S' H'→Step K μ μ' H H'→ItOk K J items w μ' H'→R J H')
theorem PI.weak {iter:Expr}{t t':TI} (h:PI X tg iter t) (w:∀ σ H R,t' σ H R→t σ H R):PI X tg iter t':=fun pins s σ H R I q=>h pins s σ H R I (w σ H R q)
theorem Step.at {K:W.Frag}{μ μ':List Addr}{H H':Hp} (st:Step K μ μ' H H') {n:Nat}{a:Addr} (h:μ[n]?=some a):μ'[n]?=some a:=by
 obtain ⟨ν,rfl⟩:=st.ext
 rw [List.getElem?_append_left (List.getElem?_eq_some_iff.mp h).1]; exact h
open Classical in
noncomputable def loopS (w:Watch) (g:G) (b:CS):List D→CS
 | []=>fun ρ S=>if okW w S then .nx ρ S else .bad
 | d::ds=>fun ρ S=>if okW w S then (match g d ρ S with
  | .ok ρ1 S1=>match b ρ1 S1 with
   | .nx ρ2 S2=>loopS w g b ds ρ2 S2
   | .ct ρ2 S2=>loopS w g b ds ρ2 S2
   | .bk ρ2 S2=>.nx ρ2 S2
   | r=>r
  | .bad=>.bad
  | .er _ _=>.bad) else .bad
noncomputable def sFor (it:CI) (g:G) (b:CS):CS:=fun ρ S=>match it ρ S with
 | .ok (items,w) S1=>loopS w g b items ρ S1
 | .bad=>.bad
 | .er _ _=>.bad
theorem ss_for {iter:Expr}{body:List Stmt}{it:CI}{g:G}{cb:CS} (hp:PassesOwn (model X.prog X.w) X.A X.env X.xe) (hc:X.calm=true) (hi:PI X tg iter (tOfI X.K it)) (hg:PG X tg (tOfG X.K g)) (hb:PSs X body (tOfS X cb))
  (hs:∀ x,foldedSetIterable iter X.env x=pure x):PS X (.For tg iter body [] pos) (tOfS X (sFor it g cb)):=(ps_for hp hc hi hg hb hs).weak (by
 rintro E σ H ⟨μ,ρ,S,sr,re,p⟩
 unfold sFor at p
 split at p
 ·rename_i items w S0 h0
  refine ⟨μ,ρ,S,items,w,S0,sr,re,h0,fun J H0 μ0 sr0 st0 io=>?_⟩
  refine ⟨fun i m σ H=>i+m=items.length∧∃ μ ρ S,SR X.K μ S H∧Step X.K μ0 μ H0 H∧RE X.K H μ ρ σ∧PostS X μ H E (loopS w g cb (items.drop i) ρ S),⟨items.length,by simp,μ0,ρ,S0,sr0,Step.refl _ _ _,re.up st0,by rw [List.drop_zero]; exact p.shift st0⟩,?_⟩
  rintro i m σ1 H1 ⟨him,μ1,ρ1,S1,sr1,st1,re1,p1⟩
  by_cases hi:i<items.length
  ·rw [List.drop_eq_getElem_cons hi] at p1
   unfold loopS at p1
   split at p1
   ·rename_i hw
    refine .inr ⟨io.go i H1 μ1 S1 sr1 st1 hw hi,fun σ' H'=>i+1+(m - 1)=items.length∧∃ μ ρ S,SR X.K μ S H'∧Step X.K μ0 μ H0 H'∧RE X.K H' μ ρ σ'∧PostS X μ H' E (loopS w g cb (items.drop (i+1)) ρ S),fun σ' H' z=>⟨m - 1,by omega,z⟩,fun x H2 hy=>?_⟩
    obtain ⟨d,hd,sr2,st2,rv⟩:=io.yld i H1 μ1 S1 x H2 sr1 st1 hw hi hy
    have ed:items[i]=d:=by rw [List.getElem?_eq_getElem hi] at hd; exact Option.some.inj hd
    rw [ed] at p1
    split at p1
    ·rename_i ρ3 S3 h3
     refine ⟨μ1,ρ1,S1,d,ρ3,S3,sr2,re1.up st2,rv,h3,fun σ3 H3 μ3 sr3 st3 re3=>⟨μ3,ρ3,S3,sr3,re3,?_⟩⟩
     have st23:=st2.trans st3 sr3.nd
     have st03:=st1.trans st23 sr3.nd
     revert p1
     cases cb ρ3 S3 with
     | nx ρ4 S4=>exact fun p σ4 H4 μ4 sr4 st4 re4=>⟨by omega,μ4,ρ4,S4,sr4,st03.trans st4 sr4.nd,re4,p.shift (st23.trans st4 sr4.nd)⟩
     | ct ρ4 S4=>exact fun p σ4 H4 μ4 sr4 st4 re4=>⟨by omega,μ4,ρ4,S4,sr4,st03.trans st4 sr4.nd,re4,p.shift (st23.trans st4 sr4.nd)⟩
     | bk ρ4 S4=>exact fun p σ4 H4 μ4 sr4 st4 re4=>p σ4 H4 μ4 sr4 (st23.trans st4 sr4.nd) re4
     | rt d S4=>exact fun p=>Yld.shift p st23
     | bad=>exact fun p=>p
     | er _ _=>exact fun p=>YldE.shift p st23
    ·exact False.elim p1
    ·exact False.elim p1
   ·exact False.elim p1
  ·have e:i=items.length:=by omega
   subst e
   rw [List.drop_length] at p1
   unfold loopS at p1
   split at p1
   ·rename_i hw
    exact .inl ⟨io.stop H1 μ1 S1 sr1 st1 hw,p1 σ1 H1 μ1 sr1 (Step.refl _ _ _) re1⟩
   ·exact False.elim p1
 ·exact False.elim p
 ·exact False.elim p)
noncomputable def sRaise (c:Str):CS:=fun _ S=>.er c S
theorem ss_raise {x:Str}{txt:Str}{j:Nat}{np p2 cpos:Pos} (hc:X.calm=true) (hg:Gl X x) (hx:∃ C,X.mg x=some (.ref C)∧ExcK X.K C) (hd:(x == ("__debug__":Str))=false):PS X (.Raise (some (.Call (.Name x np) [.Constant (.str txt) j p2] [] cpos)) none pos) (tOfS X (sRaise x)):=by
 obtain ⟨C,hm,hk⟩:=hx
 refine (ps_raise hc hg hm hk ex_new hd).weak ?_
 rintro E σ H ⟨μ,ρ,S,sr,re,p⟩
 exact p H μ sr (Step.refl _ _ _) C hm
inductive tOfX (X:Cx) (c:C) (σ:St) (H:Hp) (Q:VK):Prop
 | mk (μ:List Addr) (ρ:Env1) (S:Store) (sr:SR X.K μ S H) (re:RE X.K H μ ρ σ) (y:match c ρ S with | .ok d S'=>Yld X.K μ H d S' Q | .er k S'=>YldE X μ H k S' | .bad=>False)
noncomputable def sRetX (c:C):CS:=fun ρ S=>match c ρ S with
 | .ok d S'=>.rt d S'
 | .bad=>.bad
 | .er k S'=>.er k S'
theorem ss_retX (he:PE X e (tOfX X ce)):PS X (.Return (some e) pos) (tOfS X (sRetX ce)):=(ps_ret he).weak (by
 rintro E σ H ⟨μ,ρ,S,sr,re,p⟩
 refine ⟨μ,ρ,S,sr,re,?_⟩
 unfold sRetX at p
 revert p
 cases ce ρ S with
 | ok d S'=>exact fun p=>p
 | bad=>exact fun p=>p
 | er k S'=>exact fun p=>p)
noncomputable def sExprX (c:C):CS:=fun ρ S=>match c ρ S with
 | .ok _ S'=>.nx ρ S'
 | .bad=>.bad
 | .er k S'=>.er k S'
theorem ss_exprX (he:PE X e (tOfX X ce)) (hs:swapsWith e none pos.line X.env=pure false):PS X (.Expr e pos) (tOfS X (sExprX ce)):=(ps_expr he hs).weak (by
 rintro E σ H ⟨μ,ρ,S,sr,re,p⟩
 refine ⟨μ,ρ,S,sr,re,?_⟩
 unfold sExprX at p
 revert p
 cases ce ρ S with
 | ok d S'=>exact fun p v H1 μ1 sr1 st1 r1=>p σ H1 μ1 sr1 st1 (re.up st1)
 | bad=>exact fun p=>p
 | er k S'=>exact fun p=>p)
noncomputable def spOfX (K:W.Frag) (mg:Str→Option Value) (φ:List D→M D) (n:Nat):Sp:=fun vs H Q E=>vs.length=n∧∃ μ ds S,SR K μ S H∧RVs K H μ ds vs∧match φ ds S with
 | .ok d S'=>Yld K μ H d S' Q
 | .er c S'=>∀ H' μ',SR K μ' S' H'→Step K μ μ' H H'→∀ C,mg c=some (.ref C)→E (.ref C) none H'
 | .bad=>False
theorem of_callX {φ:List D→M D}{n:Nat}{ca':CA} (hn:∀ ds S,φ ds S≠.bad→ds.length=n):∀ σ H Q,tOf X.K (cApp φ ca') σ H Q→tCall (spOfX X.K X.mg φ n) [] E0 (tOfA X.K ca') σ H Q:=by
 rintro σ H Q ⟨μ,ρ,S,d,S',sr,re,e,y⟩
 obtain ⟨xs,S1,e1,e⟩:=bnd_ok e
 refine ⟨μ,ρ,S,xs,S1,sr,re,e1,fun vs H1 μ1 sr1 st1 r1=>?_⟩
 rw [List.append_nil]
 refine ⟨by rw [← r1.len]; exact hn _ S1 (by rw [e]; exact fun z=>by cases z),μ1,xs,S1,sr1,r1,?_⟩
 rw [e]
 exact y.shift st1
noncomputable def cAppX (φ:List D→M D) (ca:CA):C:=fun ρ S=>match ca ρ S with
 | .ok xs S1=>φ xs S1
 | _=>.bad
theorem of_callX2 {φ:List D→M D}{n:Nat}{ca':CA} (hn:∀ ds S,φ ds S≠.bad→ds.length=n):∀ σ H Q,tOfX X (cAppX φ ca') σ H Q→tCall (spOfX X.K X.mg φ n) [] (EX X) (tOfA X.K ca') σ H Q:=by
 rintro σ H Q ⟨μ,ρ,S,sr,re,y⟩
 unfold cAppX at y
 cases h:ca' ρ S with
 | bad=>rw [h] at y; exact y.elim
 | er c S'=>rw [h] at y; exact y.elim
 | ok xs S1 =>
  rw [h] at y
  refine ⟨μ,ρ,S,xs,S1,sr,re,h,fun vs H1 μ1 sr1 st1 r1=>?_⟩
  rw [List.append_nil]
  dsimp only at y
  refine ⟨by rw [← r1.len]; exact hn _ S1 (fun z=>by rw [z] at y; exact y),μ1,xs,S1,sr1,r1,?_⟩
  revert y
  cases φ xs S1 with
  | ok d S'=>exact fun y=>Yld.shift y st1
  | bad=>exact fun y=>y
  | er c S'=>exact fun y=>YldE.shift y st1
structure CalleeX (P:Program) (w:World) (K:W.Frag) (mg:Str→Option Value) (base:Heap) (x:Str) (ps:List Str) (k:Nat) (sp:Sp):Prop where
 ex:∃ f fd,FnOk P w K mg base (CX1 P w) k f fd ps sp∧Binds K fd ps []∧W.keepIn K (.ref f)=true∧mg x=some (.ref f)
theorem pe_callX {x:Str}{ps:List Str}{k k':Nat}{sp:Sp}{E:XK}{e:Expr}{es:List Expr}{t:TA}{p:Pos} (C:CalleeX X.prog X.w X.K X.mg X.base x ps k sp) (hr:Room k' X.A) (hg:Gl X x) (hx:Passes (CX1 X.prog X.w) X E) (ha:PA X (e::es) t) (hk:k≤k') (hdb:(x == ("__debug__":Str))=false)
  (h1:starEach (e::es) X.env=(false,eval e X.env)::starEach es X.env) (h2:(backTo pos (starEach es X.env)).any (·.1)=false) :
  PE X (.Call (.Name x p) (e::es) [] pos) (tCall sp [] E t):=by
 obtain ⟨f,fd,F,hb,hkp,hm⟩:=C.ex
 exact pe_call (hdb:=hdb) (he:=h1) (hpl:=h2) F (hr.mono hk) hg hm hkp hb .nil hx ha
theorem pass1:Passes (CX1 X.prog X.w) X E0:=fun _ _ _ _ _ _ _ h=>by
 obtain ⟨_,_,_,_,_,_,_,_,_,_,_,_,_,_,z⟩:=h
 exact z.elim
end
open PySem PySem.Spec PyProof.Rows
section
variable {X:Cx}{tg e:Expr}{ce:C}{pos:Pos}
noncomputable def iSeq (c:C):CI:=fun ρ=>bnd (c ρ) fun x S=>match x with
 | .tup xs=>.ok (xs,[]) S
 | .lst n=>match lstAt S n with
  | some xs=>.ok (xs,[(n,xs)]) S
  | none=>.bad
 | _=>.bad
theorem it_tup {K:W.Frag}{H0:Hp}{μ0:List Addr}{a:Addr}{xs:List D}{vs:List V} (q:SqT K H0 a vs) (r:RVs K H0 μ0 xs vs):ItOk K (Itt K a) xs [] μ0 H0 where
 go:=fun i H μ S sr st _ hi=>by
  obtain ⟨v,e,_⟩:=r.get (List.getElem?_eq_getElem hi)
  exact ⟨vs,v,st.tk.t _ _ q,e⟩
 yld:=fun i H μ S x H' sr st _ hi y=>by
  obtain ⟨rfl,y⟩:=y
  obtain ⟨v,e,rv⟩:=r.get (List.getElem?_eq_getElem hi)
  have:=y vs (st.tk.t _ _ q)
  rw [e] at this; cases this
  exact ⟨xs[i],List.getElem?_eq_getElem hi,sr,Step.refl _ _ _,RV.up st.tk st.ext _ _ rv⟩
 stop:=fun H μ S sr st _=>⟨vs,st.tk.t _ _ q,by rw [r.len]; exact Nat.le_refl _⟩
theorem it_lst {K:W.Frag}{H0:Hp}{μ0:List Addr}{a:Addr}{n:Nat}{xs:List D} (hm:μ0[n]?=some a):ItOk K (Itl K a) xs [(n,xs)] μ0 H0 where
 go:=fun i H μ S sr st w hi=>by
  obtain ⟨vs,q,r⟩:=sr.sq (st.at hm) (w (n,xs) (by simp))
  obtain ⟨v,e,_⟩:=r.get (List.getElem?_eq_getElem hi)
  exact ⟨vs,v,q,e⟩
 yld:=fun i H μ S x H' sr st w hi y=>by
  obtain ⟨rfl,y⟩:=y
  obtain ⟨vs,q,r⟩:=sr.sq (st.at hm) (w (n,xs) (by simp))
  obtain ⟨v,e,rv⟩:=r.get (List.getElem?_eq_getElem hi)
  have:=y vs q
  rw [e] at this; cases this
  exact ⟨xs[i],List.getElem?_eq_getElem hi,sr,Step.refl _ _ _,rv⟩
 stop:=fun H μ S sr st w=>by
  obtain ⟨vs,q,r⟩:=sr.sq (st.at hm) (w (n,xs) (by simp))
  exact ⟨vs,q,by rw [r.len]; exact Nat.le_refl _⟩
theorem pi_seq {tl:TE} (hl:PE X e tl):PI X tg e (fun σ H R=>tl σ H fun x H1=>∃ a,x=.ref a∧((∃ xs,SqL X.K H1 a xs)∧R (Itl X.K a) H1∨(∃ xs,SqT X.K H1 a xs)∧R (Itt X.K a) H1
  )):=by
 intro pins s σ H R I h
 refine thn (hl pins s σ H _ I h) fun v s1 ⟨x,H1,I1,r1,q1⟩=>?_
 obtain ⟨a,e,q⟩:=q1
 subst e
 cases r1
 rcases q with ⟨⟨xs,hq⟩,q⟩ | ⟨⟨xs,hq⟩,q⟩
 ·obtain ⟨its,rv,p,hz⟩:=I1.list hq
  refine wpAny_pyIter_list p.isList ?_
  refine ⟨s1.heap.objs.size,[s1.heap.objs.size],_,_,H1,rfl,I1.kept (t':=s1.toks) fun b o e=>Heap.get?_push_of_some _ e,turn_list a _,⟨_,Heap.get?_push_size _ rfl,rfl,rfl⟩,fun b hb=>?_,q⟩
  have e:b=s1.heap.objs.size:=by simpa using hb
  subst e
  exact I1.fpOk (Nat.le_refl _) (I1.hok.fresh (Nat.le_refl _))
 ·obtain ⟨its,rv,p,hz⟩:=I1.tuple hq
  refine wpAny_pyIter_tuple (show s1.heap.IsTuple a its.toArray from p) ?_
  refine ⟨s1.heap.objs.size,[s1.heap.objs.size],_,_,H1,rfl,I1.kept (t':=s1.toks) fun b o e=>Heap.get?_push_of_some _ e,turn_tuple a _,⟨_,Heap.get?_push_size _ rfl,rfl,rfl⟩,fun b hb=>?_,q⟩
  have e:b=s1.heap.objs.size:=by simpa using hb
  subst e
  exact I1.fpOk (Nat.le_refl _) (I1.hok.fresh (Nat.le_refl _))
theorem si_seq (he:PE X e (tOf X.K ce)):PI X tg e (tOfI X.K (iSeq ce)):=(pi_seq he).weak (by
 rintro σ H R ⟨μ,ρ,S,items,w,S',sr,re,e,y⟩
 obtain ⟨x,S1,e1,e⟩:=bnd_ok e
 refine ⟨μ,ρ,S,x,S1,sr,re,e1,fun v H1 μ1 sr1 st1 r1=>?_⟩
 try dsimp only at e
 split at e
 ·rename_i xs
  cases e
  have r1':=r1
  unfold RV at r1'; obtain ⟨a,vs,rfl,q,rr⟩:=r1'
  exact ⟨a,rfl,.inr ⟨⟨vs,SqT.of q⟩,y _ H1 μ1 sr1 st1 (it_tup (SqT.of q) rr)⟩⟩
 ·rename_i n
  split at e
  ·rename_i xs hx
   cases e
   unfold RV at r1; obtain ⟨a,rfl,hm⟩:=r1
   obtain ⟨vs,q,rr⟩:=sr1.sq hm hx
   exact ⟨a,rfl,.inl ⟨⟨vs,q⟩,y _ H1 μ1 sr1 st1 (it_lst hm)⟩⟩
  ·cases e
 ·cases e)
noncomputable def upD (lo:Int) (n:Nat):List D:=(List.range n).map fun k=>D.int (lo+(k:Nat))
theorem it_rng {K:W.Frag}{H0:Hp}{μ0:List Addr}{lo:Int}{n:Nat}:ItOk K (Itr lo n) (upD lo n) [] μ0 H0 where
 go:=fun i H μ S sr st _ hi=>by
  unfold upD at hi; simp at hi; exact hi
 yld:=fun i H μ S x H' sr st _ hi y=>by
  obtain ⟨rfl,rfl⟩:=y
  have hi':i<n:=by unfold upD at hi; simp at hi; exact hi
  exact ⟨.int (lo+i),by unfold upD; rw [List.getElem?_map,List.getElem?_range hi']; rfl,sr,Step.refl _ _ _,rv_int⟩
 stop:=fun H μ S sr st _=>by
  show n≤(upD lo n).length
  unfold upD; simp
noncomputable def iRange1 (a:CA):CI:=fun ρ=>bnd (a ρ) fun xs S=>match xs with
 | [.int j]=>if -4611686018427387904≤j∧j<4611686018427387904 then .ok (upD 0 j.toNat,[]) S else .bad
 | _=>.bad
noncomputable def iRange2 (a:CA):CI:=fun ρ=>bnd (a ρ) fun xs S=>match xs with
 | [.int i,.int j]=>if -4611686018427387904≤i∧i<4611686018427387904∧-4611686018427387904≤j∧j<4611686018427387904 then .ok (upD i (j - i).toNat,[]) S else .bad
 | _=>.bad
variable {a b:Expr}{ca:CA}
theorem si_range1 {p:Pos} (h:PI X tg (.Call (.Name "range" p) [a] [] pos) (iRng1 (tOfA X.K ca))):PI X tg (.Call (.Name "range" p) [a] [] pos) (tOfI X.K (iRange1 ca)):=h.weak (by
 rintro σ H R ⟨μ,ρ,S,items,w,S',sr,re,e,y⟩
 obtain ⟨xs,S1,e1,e⟩:=bnd_ok e
 refine ⟨μ,ρ,S,xs,S1,sr,re,e1,fun vs H1 μ1 sr1 st1 r1=>?_⟩
 try dsimp only at e
 split at e
 ·rename_i j
  split at e
  ·rename_i hl
   cases e
   obtain ⟨v,rfl,r2⟩:=r1.one
   unfold RV at r2; subst r2
   exact ⟨j,rfl,hl.1,hl.2,y _ H1 μ1 sr1 st1 it_rng⟩
  ·cases e
 ·cases e)
theorem si_range2 {p:Pos} (h:PI X tg (.Call (.Name "range" p) [a,b] [] pos) (iRng2 (tOfA X.K ca))):PI X tg (.Call (.Name "range" p) [a,b] [] pos) (tOfI X.K (iRange2 ca)):=h.weak (by
 rintro σ H R ⟨μ,ρ,S,items,w,S',sr,re,e,y⟩
 obtain ⟨xs,S1,e1,e⟩:=bnd_ok e
 refine ⟨μ,ρ,S,xs,S1,sr,re,e1,fun vs H1 μ1 sr1 st1 r1=>?_⟩
 try dsimp only at e
 split at e
 ·rename_i i j
  split at e
  ·rename_i hl
   cases e
   obtain ⟨v,u,rfl,r2,r3⟩:=r1.two
   unfold RV at r2 r3; subst r2 r3
   exact ⟨i,j,rfl,hl,y _ H1 μ1 sr1 st1 it_rng⟩
  ·cases e
 ·cases e)
theorem zip_get {α β:Type}{xs:List α}{ys:List β}{i:Nat} (h:i<(xs.zip ys).length):∃ x y,xs[i]?=some x∧ys[i]?=some y∧(xs.zip ys)[i]?=some (x,y):=by
 rw [List.length_zip] at h
 have h1:i<xs.length:=by omega
 have h2:i<ys.length:=by omega
 exact ⟨xs[i],ys[i],List.getElem?_eq_getElem h1,List.getElem?_eq_getElem h2,by rw [List.getElem?_zip_eq_some]; exact ⟨List.getElem?_eq_getElem h1,List.getElem?_eq_getElem h2⟩⟩
noncomputable def zipD (xs ys:List D):List D:=(xs.zip ys).map fun p=>.tup [p.1,p.2]
noncomputable def zsAt (S:Store):D→Option (List D)
 | .tup xs=>some xs
 | .lst n=>lstAt S n
 | _=>none
noncomputable def watchOf (x:D) (xs:List D):Watch:=match x with
 | .lst n=>[(n,xs)]
 | _=>[]
theorem sqX_of {K:W.Frag}{μ:List Addr}{S:Store}{H:Hp}{x:D}{v:V}{xs:List D} (sr:SR K μ S H) (r:RV K H μ x v) (ho:zsAt S x=some xs):∃ a b,v=.ref a∧(∃ vs,SqX b K H a vs) ∧
  ∀ H1 μ1 S1,SR K μ1 S1 H1→Step K μ μ1 H H1→okW (watchOf x xs) S1→∃ vs,SqX b K H1 a vs∧RVs K H1 μ1 xs vs:=by
 unfold zsAt at ho
 split at ho
 ·rename_i ys
  cases ho
  unfold RV at r; obtain ⟨a,vs,rfl,q,rr⟩:=r
  exact ⟨a,true,rfl,⟨vs,SqT.of q⟩,fun H1 μ1 S1 sr1 st1 _=>⟨vs,st1.tk.t _ _ (SqT.of q),RVs.up st1.tk st1.ext _ _ rr⟩⟩
 ·rename_i n
  unfold RV at r; obtain ⟨a,rfl,hm⟩:=r
  obtain ⟨vs,q,rr⟩:=sr.sq hm ho
  exact ⟨a,false,rfl,⟨vs,q⟩,fun H1 μ1 S1 sr1 st1 w=>sr1.sq (st1.at hm) (w (n,xs) (by simp [watchOf]))⟩
 ·cases ho
theorem okW_app {w1 w2:Watch}{S:Store}:okW (w1++w2) S↔okW w1 S∧okW w2 S:=by
 unfold okW
 simp only [List.mem_append]
 exact ⟨fun h=>⟨fun p hp=>h p (.inl hp),fun p hp=>h p (.inr hp)⟩,fun h p hp=>hp.elim (h.1 p) (h.2 p)⟩
theorem it_zipX {K:W.Frag}{H0:Hp}{μ0:List Addr}{a b:Addr}{b1 b2:Bool}{w1 w2:Watch}{xs ys:List D}
  (g1:∀ H1 μ1 S1,SR K μ1 S1 H1→Step K μ0 μ1 H0 H1→okW w1 S1→∃ vs,SqX b1 K H1 a vs∧RVs K H1 μ1 xs vs) (g2:∀ H1 μ1 S1,SR K μ1 S1 H1→Step K μ0 μ1 H0 H1→okW w2 S1→∃ vs,SqX b2 K H1 b vs∧RVs K H1 μ1 ys vs) :
  ItOk K (ItzX b1 b2 K a b) (zipD xs ys) (w1++w2) μ0 H0 where
 go:=fun i H μ S sr st w hi=>by
  obtain ⟨vs,q,r⟩:=g1 H μ S sr st (okW_app.mp w).1
  obtain ⟨us,q2,r2⟩:=g2 H μ S sr st (okW_app.mp w).2
  obtain ⟨x,y,e1,e2,_⟩:=zip_get (xs:=xs) (ys:=ys) (i:=i) (by unfold zipD at hi; simpa using hi)
  obtain ⟨v,g1,_⟩:=r.get e1
  obtain ⟨u,g2,_⟩:=r2.get e2
  exact ⟨vs,us,v,u,q,q2,g1,g2⟩
 yld:=fun i H μ S x H' sr st w hi y=>by
  obtain ⟨T,hT,rfl,y⟩:=y
  obtain ⟨vs,q,r⟩:=g1 H μ S sr st (okW_app.mp w).1
  obtain ⟨us,q2,r2⟩:=g2 H μ S sr st (okW_app.mp w).2
  obtain ⟨x,y',e1,e2,e3⟩:=zip_get (xs:=xs) (ys:=ys) (i:=i) (by unfold zipD at hi; simpa using hi)
  obtain ⟨v,g1,rv⟩:=r.get e1
  obtain ⟨u,g2,ru⟩:=r2.get e2
  have:=y vs us v u q q2 g1 g2
  subst this
  obtain ⟨s1,s2,s3⟩:=new_tup (p:=T) sr hT (.cons rv (.cons ru .nil))
  exact ⟨.tup [x,y'],by unfold zipD; rw [List.getElem?_map,e3]; rfl,s1,s2,s3⟩
 stop:=fun H μ S sr st w=>by
  obtain ⟨vs,q,r⟩:=g1 H μ S sr st (okW_app.mp w).1
  obtain ⟨us,q2,r2⟩:=g2 H μ S sr st (okW_app.mp w).2
  exact ⟨vs,us,q,q2,by unfold zipD; rw [List.length_map,List.length_zip,r.len,r2.len]⟩
noncomputable def iZipL (a:CA):CI:=fun ρ=>bnd (a ρ) fun xs S=>match xs with
 | [x,y]=>match zsAt S x,zsAt S y with
  | some ys,some zs=>.ok (zipD ys zs,watchOf x ys++watchOf y zs) S
  | _,_=>.bad
 | _=>.bad
theorem si_zip {elts:List Expr}{k:Nat}{tpos p:Pos} (h:PI X (.Tuple elts k tpos) (.Call (.Name "zip" p) [a,b] [] pos) (iZipX X.K (tOfA X.K ca))):PI X (.Tuple elts k tpos) (.Call (.Name "zip" p) [a,b] [] pos) (tOfI X.K (iZipL ca)):=h.weak (by
 rintro σ H R ⟨μ,ρ,S,items,w,S',sr,re,e,y⟩
 obtain ⟨xs,S1,e1,e⟩:=bnd_ok e
 refine ⟨μ,ρ,S,xs,S1,sr,re,e1,fun vs H1 μ1 sr1 st1 r1=>?_⟩
 try dsimp only at e
 split at e
 ·rename_i x1 x2
  split at e
  ·rename_i ys zs h1 h2
   cases e
   obtain ⟨v,u,rfl,r2,r3⟩:=r1.two
   obtain ⟨a,b1,rfl,q1,g1⟩:=sqX_of sr1 r2 h1
   obtain ⟨b,b2,rfl,q2,g2⟩:=sqX_of sr1 r3 h2
   exact ⟨a,b,b1,b2,rfl,q1,q2,y _ H1 μ1 sr1 st1 (it_zipX g1 g2)⟩
  ·cases e
 ·cases e)
noncomputable def stE (k:Nat) (js:List Nat) (ρ:Env1):Env1:=List.replicate k none++js.map fun j=>(ρ[j]?).getD none
theorem RE.comp {K:W.Frag}{H:Hp}{μ:List Addr}{ρ:Env1}{σ:St} (re:RE K H μ ρ σ) (k:Nat) (js:List Nat):RE K H μ (stE k js ρ) (stC k js σ):=by
 refine ⟨by unfold stE stC; simp,fun i d e=>?_⟩
 unfold stE at e
 unfold stC
 by_cases hi:i<k
 ·rw [List.getElem?_append_left (by simpa using hi),List.getElem?_replicate] at e
  simp [hi] at e
 ·rw [List.getElem?_append_right (by simpa using hi),List.length_replicate,List.getElem?_map] at e
  rw [List.getElem?_append_right (by simpa using hi),List.length_replicate,List.getElem?_map]
  cases q:js[i - k]? with
  | none=>rw [q] at e; simp at e
  | some j =>
   rw [q] at e
   simp only [Option.map_some,Option.some.injEq] at e
   cases q2:ρ[j]? with
   | none=>rw [q2] at e; simp at e
   | some z =>
    rw [q2] at e
    simp at e
    subst e
    obtain ⟨v,e1,r1⟩:=re.2 j d q2
    exact ⟨v,by simp [e1],r1⟩
inductive Tgt where
 | one | many (k:Nat)
noncomputable def setAll:Env1→Nat→List D→Env1
 | ρ,_,[]=>ρ
 | ρ,s,x::xs=>setAll (ρ.set s (some x)) (s+1) xs
noncomputable def bindT (t:Tgt) (d:D) (ρ:Env1):Option Env1:=match t with
 | .one=>some (ρ.set 0 (some d))
 | .many k=>match d with
  | .tup xs=>if xs.length=k then some (setAll ρ 0 xs) else none
  | _=>none
noncomputable def gNames:Nat→Nat→TGs
 | _,0=>gNil
 | s,n+1=>gCons (gName s) (gNames (s+1) n)
noncomputable def tgtK:Tgt→Nat
 | .one=>1
 | .many k=>k
noncomputable def tOfT' (K:W.Frag):Tgt→TG
 | .one=>gName 0
 | .many k=>gTup K k (gNames 0 k)
theorem weak_set {k:Nat}{js:List Nat}{σ σ1:St} (h:WeakS (stC k js σ) σ1) {i:Nat} (hi:i<k) (v:V):WeakS (stC k js σ) (σ1.set i (some v)):=by
 refine ⟨by rw [List.length_set]; exact h.1,fun j u e=>?_⟩
 by_cases hj:i=j
 ·subst hj
  obtain ⟨_,h1,_⟩:=stC_get e
  omega
 ·rw [List.getElem?_set_ne hj]
  exact h.2 j u e
theorem weak_refl (σ:St):WeakS σ σ:=⟨rfl,fun _ _ h=>h⟩
theorem names_ok {K:W.Frag}{H:Hp}{μ:List Addr}{k:Nat}{js:List Nat}{σ:St}{Q:St→Hp→Prop}:∀ {n s:Nat}{xs:List D}{vs:List V}{ρ1:Env1}{σ1:St},RVs K H μ xs vs→xs.length=n→s+n≤k→RE K H μ ρ1 σ1→WeakS (stC k js σ) σ1→(∀ σ4,RE K H μ (setAll ρ1 s xs) σ4→WeakS (stC k js σ) σ4→Q σ4 H)→gNames s n vs σ1 H Q
 | 0,s,xs,vs,ρ1,σ1,r,hl,hk,re,w,h=>by
  have:xs=[]:=List.length_eq_zero_iff.mp hl
  subst this
  exact ⟨r.nil_inv,h σ1 re w⟩
 | n+1,s,[],vs,ρ1,σ1,r,hl,hk,re,w,h=>by simp at hl
 | n+1,s,x::xs,vs,ρ1,σ1,r,hl,hk,re,w,h=>by
  obtain ⟨v,us,rfl,r1,r2⟩:=r.cons_inv
  exact ⟨v,us,rfl,names_ok r2 (by simpa using hl) (by omega) (re.set r1 s) (weak_set w (by omega) v) h⟩
theorem bind_ok {K:W.Frag}{H:Hp}{μ:List Addr}{k:Nat}{js:List Nat}{σ:St}{ρ ρ4:Env1}{t:Tgt}{d:D}{x:V}{Q:St→Hp→Prop} (ht:tgtK t≤k) (re:RE K H μ (stE k js ρ) (stC k js σ)) (rv:RV K H μ d x) (e:bindT t d (stE k js ρ)=some ρ4) (h:∀ σ4,RE K H μ ρ4 σ4→WeakS (stC k js σ) σ4→Q σ4 H) (h1:1≤k):tOfT' K t x (stC k js σ) H Q:=by
 cases t with
 | one =>
  cases e
  exact h _ (re.set rv 0) (weak_set (weak_refl _) h1 x)
 | many n =>
  unfold bindT at e
  dsimp only at e
  split at e
  ·rename_i xs
   split at e
   ·rename_i hl
    cases e
    unfold RV at rv
    obtain ⟨p,vs,rfl,q,rr⟩:=rv
    exact ⟨p,vs,rfl,SqT.of q,by rw [← rr.len]; exact hl,names_ok rr hl (by have:n≤k:=ht; omega) re (weak_refl _) h⟩
   ·cases e
  ·cases e
open Classical in
noncomputable def loopC (w:Watch) (t:Tgt) (tc:CT) (c:C) (ρ0:Env1):List D→M (List D)
 | []=>fun S=>if okW w S then .ok [] S else .bad
 | d::ds=>fun S=>if okW w S then (match bindT t d ρ0 with
  | some ρ1=>bnd (tc ρ1) (fun k=>if k then bnd (c ρ1) fun y=>bnd (loopC w t tc c ρ0 ds) fun ys=>ret (y::ys) else loopC w t tc c ρ0 ds) S
  | none=>.bad) else .bad
noncomputable def cComp (it:CI) (k:Nat) (js:List Nat) (t:Tgt) (tc:CT) (c:C):C:=fun ρ=>bnd (it ρ) fun p S=>if p.1.length<lim then
  bnd (loopC p.2 t tc c (stE k js ρ) p.1) (fun ys S'=>.ok (.lst S'.length) (S'++[.lst ys])) S
 else .bad
theorem SR.acc {K:W.Frag}{H:Hp}{μ:List Addr}{S:Store}{A:Addr}{us ws:List V} (sr:SR K μ S H) (hA:A∉μ) (h:H A=some (.lst us)):SR K μ S (upd H A (.lst ws)) :=
 ⟨sr.len,sr.nd,fun n a o e1 e2=>(sr.obj n a o e1 e2).up (tf_lst h) ⟨[],by simp⟩ (upd_ne fun z=>hA (z▸List.mem_of_getElem? e1))⟩
theorem Step.acc {K:W.Frag}{H0 H:Hp}{μ0 μ:List Addr}{A:Addr}{us ws:List V} (st:Step K μ0 μ H0 H) (h0:H0 A=none) (h:H A=some (.lst us)):Step K μ0 μ H0 (upd H A (.lst ws)) :=
 ⟨st.pre,fun b o hb e=>by rw [upd_ne (ne_of_none e h0)]; exact st.fr b o hb e,st.tk.trans (tf_lst h)⟩
theorem SR.adopt {K:W.Frag}{H:Hp}{μ:List Addr}{S:Store}{A:Addr}{us:List V}{acc:List D} (sr:SR K μ S H) (hA:A∉μ) (h:H A=some (.lst us)) (r:RVs K H μ acc us):SR K (μ++[A]) (S++[.lst acc]) H:=by
 refine ⟨by simp [sr.len],?_,fun n a u e1 e2=>?_⟩
 ·rw [List.nodup_append]
  refine ⟨sr.nd,by simp,fun a ha b hb=>?_⟩
  simp at hb; subst hb
  exact fun z=>hA (z▸ha)
 ·by_cases hn:n<μ.length
  ·rw [List.getElem?_append_left hn] at e1
   rw [List.getElem?_append_left (by rw [← sr.len]; exact hn)] at e2
   exact (sr.obj n a u e1 e2).up (TF.refl _ _) ⟨[A],rfl⟩ rfl
  ·rw [List.getElem?_append_right (by omega)] at e1
   rw [List.getElem?_append_right (by rw [← sr.len]; omega)] at e2
   have h1:n - μ.length=0:=by
    have:=(List.getElem?_eq_some_iff.mp e1).1
    simp at this; omega
   rw [h1] at e1
   rw [← sr.len,h1] at e2
   simp at e1 e2
   subst e1 e2
   exact ⟨us,h,RVs.up (TF.refl _ _) ⟨[A],rfl⟩ _ _ r⟩
theorem Step.adopt {K:W.Frag}{H0 H:Hp}{μ0 μ:List Addr}{A:Addr} (st:Step K μ0 μ H0 H) (h0:H0 A=none):Step K μ0 (μ++[A]) H0 H:=by
 obtain ⟨ν,e,n⟩:=st.pre
 refine ⟨⟨ν++[A],by rw [e,List.append_assoc],fun b hb=>?_⟩,st.fr,st.tk⟩
 rcases List.mem_append.mp hb with h | h
 ·exact n b h
 ·simp at h; subst h; exact h0
theorem Step.notIn {K:W.Frag}{H H':Hp}{μ μ':List Addr}{A:Addr}{o:HO} (st:Step K μ μ' H H') (hA:A∉μ) (h:H A=some o):A∉μ':=fun z=>by
 obtain ⟨ν,rfl,n⟩:=st.pre
 rcases List.mem_append.mp z with q | q
 ·exact hA q
 ·rw [n A q] at h; cases h
inductive CompW (K:W.Frag) (items:List D) (w:Watch) (t:Tgt) (tc:CT) (c:C) (ρ0:Env1) (μ0:List Addr) (H0:Hp) (A:Addr) (S1:Store) (ys:List D) (i m:Nat) (us:List V) (H2:Hp):Prop
 | mk (him:i+m=items.length) (hus:us.length≤i) (μ2:List Addr) (S2:Store) (acc rest:List D) (sr:SR K μ2 S2 H2) (st:Step K μ0 μ2 H0 H2) (nA:A∉μ2) (hA:H2 A=some (.lst us)) (ra:RVs K H2 μ2 acc us) (el:loopC w t tc c ρ0 (items.drop i) S2=.ok rest S1) (eys:acc++rest=ys)
theorem of_comp {σ:St}{H:Hp}{Q:VK}{it:CI}{k:Nat}{js:List Nat}{t:Tgt}{tc:CT}{c:C} (ht:tgtK t≤k) (h1:1≤k) (h:tOf X.K (cComp it k js t tc c) σ H Q):tComp (tOfI X.K it) k js (tOfT' X.K t) (tOfT X.K tc) (tOf X.K c) σ H Q:=by
 obtain ⟨μ,ρ,S,d,S',sr,re,e,y⟩:=h
 obtain ⟨⟨items,w⟩,S0,e0,f0⟩:=bnd_ok e
 dsimp only at f0
 split at f0
 ·rename_i hlim
  obtain ⟨ys,S1,e1,f1⟩:=bnd_ok f0
  cases f1
  refine ⟨μ,ρ,S,items,w,S0,sr,re,e0,fun J H0 μ0 sr0 st0 io A hA=>?_⟩
  have reC:=(re.up st0).comp k js
  obtain ⟨srA,stA⟩:=sr0.other (o:=.lst []) hA
  have nA:A∉μ0:=sr0.out hA
  refine ⟨CompW X.K items w t tc c (stE k js ρ) μ0 H0 A S1 ys,
   ⟨items.length,⟨by simp,Nat.zero_le _,μ0,S0,[],ys,srA,stA,nA,upd_same,RVs.nil,by rw [List.drop_zero]; exact e1,rfl⟩⟩,?_⟩
  rintro i m us H2 ⟨him,hus,μ2,S2,acc,rest,sr2,st2,nA2,hA2,racc,el,eys⟩
  refine And.intro hA2 ?_
  by_cases hi:i<items.length
  ·rw [List.drop_eq_getElem_cons hi] at el
   unfold loopC at el
   split at el
   ·rename_i hw
    refine .inr ⟨io.go i H2 μ2 S2 sr2 st2 hw hi,lim_lt (by omega),fun x H3 hy=>?_⟩
    obtain ⟨d,hd,sr3,st3,rv⟩:=io.yld i H2 μ2 S2 x H3 sr2 st2 hw hi hy
    have ed:items[i]=d:=by rw [List.getElem?_eq_getElem hi] at hd; exact Option.some.inj hd
    rw [ed] at el
    have hA3:H3 A=some (.lst us):=st3.fr A _ nA2 hA2
    have st03:=st2.trans st3 sr3.nd
    split at el
    ·rename_i ρ4 h4
     refine bind_ok ht (reC.up st03) rv h4 (fun σ4 re4 wk=>⟨wk,?_⟩) h1
     obtain ⟨kb,S3,e3,f3⟩:=bnd_ok el
     refine ⟨μ2,ρ4,S2,kb,S3,sr3,re4,e3,fun H5 μ5 sr5 st5=>?_⟩
     have hA5:H5 A=some (.lst us):=st5.fr A _ nA2 hA3
     have nA5:=st5.notIn nA2 hA3
     have st05:=st03.trans st5 sr5.nd
     have st25:=st3.trans st5 sr5.nd
     cases kb with
     | true =>
      rw [if_pos rfl] at f3 ⊢
      obtain ⟨z,S4,e4,f4⟩:=bnd_ok f3
      obtain ⟨zs,S5,e5,f5⟩:=bnd_ok f4
      obtain ⟨rfl,rfl⟩:=ret_ok f5
      refine ⟨μ5,ρ4,S3,z,S4,sr5,re4.up st5,e4,fun v H6 μ6 sr6 st6 rv6=>?_⟩
      have hA6:H6 A=some (.lst us):=st6.fr A _ nA5 hA5
      have nA6:=st6.notIn nA5 hA5
      have st26:=st25.trans st6 sr6.nd
      have tku:TF X.K H6 (upd H6 A (.lst (us++[v]))):=tf_lst hA6
      refine ⟨hA6,m - 1,by omega,⟨by omega,by rw [List.length_append]; show us.length+1≤i+1; omega,μ6,S4,acc++[z],zs,sr6.acc nA6 hA6,(st05.trans st6 sr6.nd).acc hA hA6,nA6,upd_same,?_,e5,by rw [List.append_assoc]; exact eys⟩⟩
      exact RVs.up tku ⟨[],by simp⟩ _ _ ((RVs.up st26.tk st26.ext _ _ racc).append (.cons rv6 .nil))
     | false =>
      rw [if_neg Bool.false_ne_true] at f3 ⊢
      exact ⟨m - 1,by omega,⟨by omega,by omega,μ5,S3,acc,rest,sr5,st05,nA5,hA5,RVs.up st25.tk st25.ext _ _ racc,f3,eys⟩⟩
    ·cases el
   ·cases el
  ·have ei:i=items.length:=by omega
   subst ei
   rw [List.drop_length] at el
   unfold loopC at el
   split at el
   ·rename_i hw
    cases el
    rw [List.append_nil] at eys
    subst eys
    refine .inl ⟨io.stop H2 μ2 _ sr2 st2 hw,?_⟩
    have hA0:H A=none:=by
     cases q:H A with
     | none=>rfl
     | some o =>
      by_cases hm:A∈μ
      ·exact absurd (st0.mem hm) nA
      ·rw [st0.fr A o hm q] at hA; cases hA
    have sr3:=sr2.adopt nA2 hA2 racc
    refine y (.ref A) H2 (μ2++[A]) sr3 ((st0.trans st2 sr2.nd).adopt hA0) ?_
    unfold RV
    exact ⟨A,rfl,by rw [← sr2.len,List.getElem?_append_right (Nat.le_refl _),Nat.sub_self]; rfl⟩
   ·cases el
 ·cases f0
end
open PySem PySem.Spec PyProof.Rows
section
variable {X:Cx}
noncomputable def fStr:List D→M D:=fun xs S=>match xs with
 | [.int i]=>if i.natAbs<1000000000000000000 then .ok (.str (toString i)) S else .bad
 | _=>.bad
theorem log_small {i:Int} (hl:i.natAbs<1000000000000000000):i.natAbs.log2<1920:=by
 by_cases h0:i.natAbs=0
 ·rw [h0]; decide
 ·exact (Nat.log2_lt h0).mpr (Nat.lt_trans hl (by decide))
theorem cs_str:CallS X.K (cAny X (.type "str")) fStr:=by
 intro xs S d S' H μ vs Q e sr rx h
 unfold fStr at e
 split at e
 ·split at e
  ·rename_i hl
   cases e
   obtain ⟨v,rfl,r⟩:=rx.one
   unfold RV at r; subst r
   exact ⟨_,call_str_int,_,rfl,log_small hl,h.self sr rv_str⟩
  ·cases e
 ·cases e
noncomputable def strsD:List D→Option (List Str)
 | []=>some []
 | .str z::r=>(strsD r).map (z::·)
 | _=>none
theorem strsD_ok {K:W.Frag}{H:Hp}{μ:List Addr}:∀ {ds:List D}{ss:List Str}{vs:List V},strsD ds=some ss→RVs K H μ ds vs→vs=ss.map V.str
 | [],ss,vs,e,r=>by cases e; rw [r.nil_inv]; rfl
 | x::ds,ss,vs,e,r=>by
  cases x with
  | str z =>
   obtain ⟨ts,e1,rfl⟩:=Option.map_eq_some_iff.mp e
   obtain ⟨v,ws,rfl,r1,r2⟩:=r.cons_inv
   unfold RV at r1; subst r1
   rw [strsD_ok e1 r2]; rfl
  | _=>cases e
noncomputable def mJoin:D→List D→M D:=fun x xs S=>match x,xs with
 | .str z,[.lst n]=>match S[n]? with
  | some (.lst ys)=>match strsD ys with
   | some ss=>if JoinOk z ss=true then .ok (.str (Txt.join z ss)) S else .bad
   | none=>.bad
  | _=>.bad
 | _,_=>.bad
theorem ms_join:MtS X.K "str" (mtAnyR X "str.join") mJoin:=by
 intro x xs S d S' H μ v us Q e sr rx rs y
 unfold mJoin at e
 split at e
 ·split at e
  ·rename_i ys hl
   split at e
   ·rename_i ss hs
    split at e
    ·rename_i hj
     cases e
     unfold RV at rx; subst rx
     obtain ⟨u,rfl,ru⟩:=rs.one
     unfold RV at ru; obtain ⟨p,rfl,hm⟩:=ru
     obtain ⟨vs,hp,rr⟩:=sr.lst hm hl
     have:=strsD_ok hs rr
     subst this
     exact ⟨_,mt_join,_,p,ss,rfl,rfl,hp,hj,y.self sr rv_str⟩
    ·cases e
   ·cases e
  ·cases e
 ·cases e
noncomputable def mFind:D→List D→M D:=fun x xs S=>match x,xs with
 | .str z,[.str y]=>.ok (.int (Txt.find z y)) S
 | _,_=>.bad
theorem ms_find:MtS X.K "str" (mtAnyR X "str.find") mFind:=by
 intro x xs S d S' H μ v us Q e sr rx rs y
 unfold mFind at e
 split at e
 ·cases e
  unfold RV at rx; subst rx
  obtain ⟨u,rfl,ru⟩:=rs.one
  unfold RV at ru; subst ru
  exact ⟨_,mt_find,_,_,rfl,rfl,y.self sr rv_int⟩
 ·cases e
open Builtin Builtin.Str in
noncomputable def mSplit:D→List D→M D:=fun x xs S=>match x,xs with
 | .str z,[.str y]=>if (y.length == 0)=false∧z.length≤lim∧(partsBetween z (occurrences z y 0 z.length (z.length+1)) y.length).length≤lim then .ok (.lst S.length) (S++[.lst ((Txt.split z y).map D.str)]) else .bad
 | _,_=>.bad
theorem rvs_strs {K:W.Frag}{H:Hp}{μ:List Addr}:∀ ss:List Str,RVs K H μ (ss.map D.str) (ss.map V.str)
 | []=>.nil
 | _::ss=>.cons rv_str (rvs_strs ss)
theorem ms_split:MtS X.K "str" (mtAnyR X "str.split") mSplit:=by
 intro x xs S d S' H μ v us Q e sr rx rs y
 unfold mSplit at e
 split at e
 ·split at e
  ·rename_i hc
   cases e
   unfold RV at rx; subst rx
   obtain ⟨u,rfl,ru⟩:=rs.one
   unfold RV at ru; subst ru
   refine ⟨_,mt_split,_,_,rfl,rfl,hc.1,lim_le hc.2.1,lim_le hc.2.2,fun p hp=>?_⟩
   obtain ⟨s1,s2⟩:=sr.push (o:=.lst _) (o':=.lst _) hp ⟨_,upd_same,rvs_strs _⟩
   exact y _ _ _ s1 s2 (by unfold RV; exact ⟨p,rfl,by rw [← sr.len,List.getElem?_append_right (Nat.le_refl _),Nat.sub_self]; rfl⟩)
  ·cases e
 ·cases e
noncomputable def gPopAt:List D→List D→Option (List D × D):=fun ys xs=>match xs with
 | [.int i]=>if 0≤i∧ys.length<1000 then match ys[i.toNat]? with
   | some y=>some (ys.take i.toNat++ys.drop (i.toNat+1),y)
   | none=>none
  else none
 | _=>none
theorem ms_popAt:MtS X.K "list" (mtAnyR X "list.pop") (mList gPopAt):=ms_list fun K H μ ys xs zs d vs us e r1 r2=>by
 unfold gPopAt at e
 split at e
 ·rename_i i
  split at e
  ·rename_i hc
   split at e
   ·rename_i y hy
    cases e
    obtain ⟨u,rfl,ru⟩:=r2.one
    unfold RV at ru; subst ru
    obtain ⟨v,e1,r3⟩:=r1.get hy
    have hl:=r1.len
    have hi:i.toNat<vs.length:=(List.getElem?_eq_some_iff.mp e1).1
    refine ⟨vs.take i.toNat++vs.drop (i.toNat+1),v,(r1.take _).append (r1.drop _),r3,fun p Q hp q=>⟨_,mt_popAt,p,vs,i,i.toNat,v,rfl,rfl,hp,by omega,by omega,PySem.StrLaws.seqIndex_nonneg hc.1 (by omega),e1,?_⟩⟩
    rw [List.eraseIdx_eq_take_drop_succ]
    exact q
   ·cases e
  ·cases e
 ·cases e
noncomputable def cFmt (a:C):C:=fun ρ=>bnd (a ρ) fun x S=>match x with
 | .int i=>if i.natAbs<1000000000000000000 then .ok (.str (toString i)) S else .bad
 | .str z=>if z.length≤lim then .ok (.str z) S else .bad
 | _=>.bad
theorem se_fmt {e:Expr}{ca:C}{pos:Pos} (ha:PE X e (tOf X.K ca)):PE X (.FormattedValue e (-1) none pos) (tOf X.K (cFmt ca)):=(pe_fmt ha).weak (by
 rintro σ H Q ⟨μ,ρ,S,d,S',sr,re,e,y⟩
 obtain ⟨x,S1,e1,e⟩:=bnd_ok e
 refine ⟨μ,ρ,S,x,S1,sr,re,e1,fun v H1 μ1 sr1 st1 r1=>?_⟩
 try dsimp only at e
 split at e
 ·split at e
  ·rename_i hl
   cases e
   unfold RV at r1; subst r1
   exact .inl ⟨_,rfl,log_small hl,(y.shift st1).self sr1 rv_str⟩
  ·cases e
 ·split at e
  ·rename_i hl
   cases e
   unfold RV at r1; subst r1
   exact .inr ⟨_,rfl,lim_le hl,(y.shift st1).self sr1 rv_str⟩
  ·cases e
 ·cases e)
noncomputable def cJS:List C→Str→C
 | [],acc=>fun _ S=>if acc.length≤lim then .ok (.str acc) S else .bad
 | c::cs,acc=>fun ρ=>bnd (c ρ) fun x S=>match x with
  | .str y=>if (acc++y).length≤lim then cJS cs (acc++y) ρ S else .bad
  | _=>.bad
theorem of_js {K:W.Frag}:∀ (cs:List C) (acc:Str) (σ:St) (H:Hp) (Q:VK),tOf K (cJS cs acc) σ H Q→tJS (cs.map (tOf K)) acc σ H Q
 | [],acc,σ,H,Q,⟨μ,ρ,S,d,S',sr,re,e,y⟩=>by
  unfold cJS at e
  split at e
  ·rename_i hl
   cases e
   exact ⟨lim_le hl,y.self sr rv_str⟩
  ·cases e
 | c::cs,acc,σ,H,Q,⟨μ,ρ,S,d,S',sr,re,e,y⟩=>by
  unfold cJS at e
  obtain ⟨x,S1,e1,e⟩:=bnd_ok e
  refine ⟨μ,ρ,S,x,S1,sr,re,e1,fun v H1 μ1 sr1 st1 r1=>?_⟩
  try dsimp only at e
  split at e
  ·split at e
   ·rename_i hl
    unfold RV at r1; subst r1
    exact ⟨_,rfl,lim_le hl,of_js cs _ σ H1 Q ⟨μ1,ρ,S1,d,S',sr1,re.up st1,e,y.shift st1⟩⟩
   ·cases e
  ·cases e
end
open PySem PySem.Spec PyProof.Rows
theorem codeAmong_new {pos:Pos}{a b:Int}{c cv:Value} (l:List Value) (h:TriplesOk l) (e:codeAmong pos (l++[rawInt a,rawInt b,c])=some cv):codeAmong pos l=some cv∨cv=c:=by
 fun_induction TriplesOk l with
 | case1 =>
  right
  simp only [List.nil_append,codeAmong,rawInt] at e
  split at e
  ·exact (Option.some.inj e).symm
  ·cases e
 | case2 a' t b' u x rest ih =>
  simp only [List.cons_append,codeAmong] at e ⊢
  split at e
  ·rename_i hc; rw [if_pos hc]; exact .inl e
  ·rename_i hc; rw [if_neg hc]; exact ih h e
 | case3 l h1 h2=>exact h.elim
section
variable {P:Program}{w:World}{H:Hp}{h h':Heap}{T c':Addr}{ps qs:Array Value}{oc:Obj}
noncomputable def Hmk (H:Hp) (T c':Addr) (oc:Obj) (qs:Array Value):Hp:=upd (upd H c' (.frz oc (.ext fun h=>h.get? c'=some oc))) T (.tbl qs)
theorem hmk_T:Hmk H T c' oc qs T=some (.tbl qs):=upd_same
theorem hmk_c (n:c'≠T):Hmk H T c' oc qs c'=some (.frz oc (.ext fun h=>h.get? c'=some oc)):=by unfold Hmk; rw [upd_ne n,upd_same]
theorem hmk_o {b:Addr} (n1:b≠T) (n2:b≠c'):Hmk H T c' oc qs b=H b:=by unfold Hmk; rw [upd_ne n1,upd_ne n2]
theorem un_mk {fs:List Addr} (hT:H T=some (.tbl ps)) (hs:h.objs.size≤c') (hc:H c'=none) (k:∀ b o,b≠T→h.get? b=some o→h'.get? b=some o) (hT':∃ o,h'.get? T=some o) (hq:∃ more,qs=ps++more):Un fs [] H (Hmk H T c' oc qs) h h':=by
 have nT:∀ b,H b=none→b≠T:=fun b n z=>by rw [z,hT] at n; cases n
 have nC:∀ b o,h.get? b=some o→b≠c':=fun b o e=>Nat.ne_of_lt (Nat.lt_of_lt_of_le (Heap.lt_size e) hs)
 have nC':∀ b u,H b=some u→b≠c':=fun b u e z=>by rw [z,hc] at e; cases e
 have nT':∀ b u,H b=some u→(∀ qs,u≠.tbl qs)→b≠T:=fun b u e z y=>by rw [y,hT] at e; exact z _ (Option.some.inj e).symm
 refine ⟨fun b o e n _ _=>k b o (nT b n) e,fun b o e n _ _=>⟨o.slots,k b o (nT b n) e⟩,fun b o e n _=>?_,fun b o e _=>?_,fun b xs e=>?_,fun b o u e=>?_,fun b qs' e=>?_⟩
 ·rw [hmk_o (nT b n) (nC b o e)]; exact n
 ·by_cases z:b=T
  ·rw [z]; exact hT'
  ·exact ⟨o,k b o z e⟩
 ·rw [hmk_o (nT' b _ e fun _ z=>by cases z) (nC' b _ e)]; exact e
 ·rw [hmk_o (nT' b _ e fun _ z=>by cases z) (nC' b _ e)]; exact e
 ·by_cases z:b=T
  ·subst z
   rw [hT] at e; cases e
   obtain ⟨m,rfl⟩:=hq
   exact ⟨m,hmk_T⟩
  ·exact ⟨#[],by rw [hmk_o z (nC' b _ e),e]; simp⟩
theorem hok_mk (ok:HOk P w H h) (hT:H T=some (.tbl ps)) (hs:h.objs.size≤c') (hc:H c'=none) (k:∀ b o,b≠T→h.get? b=some o→h'.get? b=some o) (hT':h'.get? T=some { cls:=.none,data:=.fields qs }) (hoc:h'.get? c'=some oc):HOk P w (Hmk H T c' oc qs) h':=by
 have nCT:c'≠T:=fun z=>by rw [z,hT] at hc; cases hc
 have nC':∀ b u,H b=some u→b≠c':=fun b u e z=>by rw [z,hc] at e; cases e
 have nT':∀ b u,H b=some u→(∀ qs,u≠.tbl qs)→b≠T:=fun b u e z y=>by rw [y,hT] at e; exact z _ (Option.some.inj e).symm
 intro a o e
 by_cases z:a=T
 ·subst z
  rw [hmk_T] at e; cases e
  exact hT'
 ·by_cases y:a=c'
  ·subst y
   rw [hmk_c nCT] at e; cases e
   exact ⟨hoc,hoc,⟨oc,hoc⟩,fun h1 h2 p q=>q _ p⟩
  ·rw [hmk_o z y] at e
   refine (ok a o e).stay (fun b u hb r=>k b u ?_ r) (fun b q=>?_) fun b xs q=>?_
   ·rcases hb with rfl | hb
    ·exact z
    ·exact nT' b _ hb fun _ z=>by cases z
   ·rw [hmk_o (nT' b _ q fun _ z=>by cases z) (nC' b _ q)]; exact q
   ·rw [hmk_o (nT' b _ q fun _ z=>by cases z) (nC' b _ q)]; exact q
end
inductive LamX (X:Cx) (x:Str):Prop
 | mk (c T:Addr) (tab:W.tabIn X.K x=some (c,T)) (code:X.env.code=.ref c) (qual:X.env.qual=x ++ ".<locals>.") (hd:W.CodeHd X.base c T) (blt:X.base.BuiltinsAt X.mg T) (ne:mainGlobals≠T)
structure LamAt (X:Cx) (K:W.Frag) (x:Str) (params:Arguments) (body:Expr) (scope:Scope) (cl:List (Str × Addr)) (T f:Addr) (H H':Hp) (h:Heap):Prop where
 tab:∃ ps,H' T=some (.tbl ps)∧TabT K (lqual x) H' T x ps
 ch:∀ b o,b≠T→H b=some o→H' b=some o
 fn:∃ cv ctv pm,h.get? f=some { cls:=.type "function",data:=.func (W.kla_fn "<lambda>" (lqual x) params body scope cl pm cv ctv) }∧CodeT (lqual x) H' cv
 free:H' f=none
 fr:f∉frs X.stack
section
variable {X:Cx}{pins:List (Addr × Obj)}{σ:St}{H:Hp}{s:Shared}
theorem blt_to {h h':Heap}{mg:Str→Option Value}{T:Addr} (B:h.BuiltinsAt mg T) (k:∀ b o,h.get? b=some o→h'.get? b=some o):h'.BuiltinsAt mg T:=by
 obtain ⟨bm,o,h1,h2,h3,h4,h5,r⟩:=B
 exact ⟨bm,o,h1,h2,h3,h4,k _ _ h5,r⟩
theorem lam_make {x:Str}{T:Addr}{ps:Array Value}{params:Arguments}{body:Expr}{scope:Scope}{cl:List (Str × Addr)}{pos:Pos}{Q:Value→Shared→Prop}{E:Value→Shared→Prop} (I:Inv X pins σ H s) (L:LamX X x) (hT:H T=some (.tbl ps)) (t:TabT X.K (lqual x) H T x ps)
  (hcl:closureFor scope X.env=pure cl) (hdef:defaultsOf params X.env=([],[]))
  (h:∀ f H' s',LamAt X X.K x params body scope cl T f H H' s'.heap→Inv X pins σ H' s'→(∀ b o,s.heap.get? b=some o→H b=none→s'.heap.get? b=some o∧H' b=none)→Q (.ref f) s') :
  wpAny (model X.prog X.w) X.A (eval (.Lambda params body scope pos) X.env) Q E s:=by
 obtain ⟨c,T',tab,code,qual,C,B,ne⟩:=L
 obtain ⟨c2,t1⟩:=t.tab
 rw [tab] at t1
 cases t1
 have eq:X.env.qual ++ "<lambda>"=lqual x:=by rw [qual]; rfl
 have oT:s.heap.get? T=some (W.tabObj ps):=I.hok T _ hT
 have G:s.heap.Ns mainGlobals X.mg:=I.ok.mod.glob.keeps I.bk
 have C':=C.keeps I.bk
 have B':=blt_to B I.bk
 have ge:=I.ok.glob
 have nfr:∀ a:Addr,s.heap.objs.size≤a→a∉frs X.stack:=fun a ha m=>by
  rcases List.mem_cons.mp (I.stkSub a m) with z | z
  ·exact absurd I.lt (by rw [← z]; exact Nat.not_lt.mpr ha)
  ·exact I.nofs ha z
 refine W.kla_eval hdef ?_
 rw [eq]
 cases hf:codeAmong pos ps.toList with
 | some cv =>
  refine W.kla_makeFunctionHit hcl ge G code C' oT t.ok hf B' fun ctv h' tk k hs=>?_
  have k2:∀ (o:Obj) (b:Addr) (u:Obj),s.heap.get? b=some u→(h'.push o).get? b=some u:=fun o b u e=>Heap.get?_push_of_some _ (k b u e)
  refine h h'.objs.size H _ ⟨⟨ps,hT,t⟩,fun _ _ _ e=>e,⟨cv,ctv,_,Heap.get?_push_size _ rfl,t.code _ _ hf⟩,I.hok.fresh hs,nfr _ hs⟩ (I.kept (t':=tk) (k2 _)) fun b o e n=>⟨k2 _ b o e,n⟩
 | none =>
  refine W.kla_makeFunction hcl ge G code C' oT t.ok hf ne B' fun c' ctv h' tk k hs hlt hrec hT'=>?_
  obtain ⟨c3,oc,vs,tq,e3,hoc,hd,hq⟩:=hrec
  cases e3
  have hc:H c'=none:=I.hok.fresh hs
  have nCT:c'≠T:=fun z=>by rw [z,hT] at hc; cases hc
  have sz:s.heap.objs.size≤h'.objs.size:=Nat.le_trans hs (Nat.le_of_lt hlt)
  have k2:∀ (o:Obj) (b:Addr) (u:Obj),b≠T→s.heap.get? b=some u→(h'.push o).get? b=some u:=fun o b u n e=>Heap.get?_push_of_some _ (k b u n e)
  have fresh:H h'.objs.size=none:=I.hok.fresh sz
  have cT:CodeT (lqual x) (Hmk H T c' oc (ps++#[rawInt pos.line,rawInt pos.col,.ref c'])) (.ref c'):=⟨c',oc,vs,tq,rfl,hmk_c nCT,hd,hq⟩
  have nT:∀ b,H b=none→b≠T:=fun b n z=>by rw [z,hT] at n; cases n
  have ch:∀ b o,b≠T→H b=some o→Hmk H T c' oc (ps++#[rawInt pos.line,rawInt pos.col,.ref c']) b=some o:=fun b o n e=>by
   rw [hmk_o n fun z=>by rw [z,hc] at e; cases e]; exact e
  refine h h'.objs.size (Hmk H T c' oc (ps++#[rawInt pos.line,rawInt pos.col,.ref c'])) _ ⟨⟨_,hmk_T,t.tab,?_,fun p cv z=>?_⟩,ch,⟨.ref c',ctv,_,Heap.get?_push_size _ rfl,cT⟩,?_,nfr _ sz⟩ ?_ fun b o e n=>⟨k2 _ b o (nT b n) e,?_⟩
  ·rw [Array.toList_append]; exact TriplesOk_snoc _ _ _ _ t.ok
  ·rw [Array.toList_append] at z
   rcases codeAmong_new _ t.ok z with z | rfl
   ·obtain ⟨c4,o4,vs4,t4,rfl,h4,r4⟩:=t.code p cv z
    exact ⟨c4,o4,vs4,t4,rfl,ch _ _ (fun y=>by rw [y,hT] at h4; cases h4) h4,r4⟩
   ·exact cT
  ·rw [hmk_o (nT _ fresh) (Nat.ne_of_gt hlt)]; exact fresh
  ·exact I.un (t':=tk) (un_mk hT hs hc (k2 _) ⟨_,Heap.get?_push_of_some _ hT'⟩ ⟨_,rfl⟩) (hok_mk I.hok hT hs hc (k2 _) (Heap.get?_push_of_some _ hT') (Heap.get?_push_of_some _ hoc))
  ·rw [hmk_o (nT b n) (Nat.ne_of_lt (Nat.lt_of_lt_of_le (Heap.lt_size e) hs))]; exact n
end
open PySem PySem.Spec PyProof.Rows
noncomputable def tbAt (S:Store):Option Str:=match (S[0]?:Option O) with
 | some (O.tb x)=>some x
 | _=>none
theorem tbAt_some {S:Store}{x:Str} (h:tbAt S=some x):S[0]?=some (.tb x):=by
 unfold tbAt at h
 split at h
 ·rename_i e; cases h; exact e
 ·cases h
theorem tbAt_of {S:Store}{x:Str} (h:S[0]?=some (.tb x)):tbAt S=some x:=by unfold tbAt; rw [h]
noncomputable def cTake (x:Str) (ws:List (Str × Str)) (js:List Nat) (cb:C):C:=fun ρ S=>if tbAt S=some x then (match cb (stE 0 js ρ) S with
 | .ok _ S'=>.ok .non S'
 | .er c S'=>(match ws.lookup c with
  | some w=>.ok (.str w) S'
  | none=>.bad)
 | .bad=>.bad) else .bad
inductive TakerIn (K:W.Frag) (mg:Str→Option Value) (tk:Str) (ws:List (Str × Str)):Prop
 | mk (st:Stmt) (fa:Addr) (fd:FuncData) (c y:Str) (h0:ExceptHandler) (hs:List ExceptHandler) (p1 p2 p3 p4 p5 p6 p7 p8 p9:Pos) (j:Nat) (wa:List (Addr × Str)) (F:Fun K tk tk st fa fd) (m:mg tk=some (.ref fa)) (b:Binds K fd [c] []) (S:FnScope [c,y] [c] (defScope st))
   (body:defBody st=tkBody c y y h0 hs p1 p2 p3 p4 p5 p6 p7 p8 p9 j) (hc1:(c == ("__debug__":Str))=false) (hc2:(c == ("__classdict__":Str))=false) (hl:(defScope st).names.lookup y=some .local) (hy1:(y == ("__debug__":Str))=false) (hy2:(y == ("__classdict__":Str))=false)
   (hs:∀ X:Cx,X.mg=mg→X.env.scope=defScope st→X.N=[c,y]→HsOk X 1 (h0::hs) wa) (pk:∀ c w C,ws.lookup c=some w→mg c=some (.ref C)→Picks K (.ref C) wa w)
section
variable {X:Cx}{pins:List (Addr × Obj)}{σ:St}{H H':Hp}{s:Shared}{K:W.Frag}{μ:List Addr}{S:Store}
theorem SR.made (sr:SR K μ S H) {T:Addr}{x:Str}{ps:Array Value} (h0:μ[0]?=some T) (hS:S[0]?=some (.tb x)) (hT:H T=some (.tbl ps)) (ch:∀ b o,b≠T→H b=some o→H' b=some o) (t:∃ ps,H' T=some (.tbl ps)∧TabT K (lqual x) H' T x ps):SR K μ S H'∧Step K μ μ H H':=by
 have hm:T∈μ:=List.mem_of_getElem? h0
 have tk:TF K H H':=tf_of (p:=T) (fun q o n e=>ch q o n e) (fun xs e=>by rw [hT] at e; cases e) fun a b e=>by rw [hT] at e; cases e
 refine ⟨⟨sr.len,sr.nd,fun n a o e1 e2=>?_⟩,⟨⟨[],by simp,by simp⟩,fun b o hb e=>ch b o (fun z=>hb (z▸hm)) e,tk⟩⟩
 by_cases hn:n=0
 ·subst hn
  rw [h0] at e1; cases e1
  rw [hS] at e2; cases e2
  exact t
 ·have ne:a≠T:=fun z=>by
   subst z
   exact hn ((List.getElem?_inj (List.getElem?_eq_some_iff.mp e1).1 sr.nd).mp (e1.trans h0.symm))
  obtain ⟨o',q⟩:=sr.isS (List.mem_of_getElem? e1)
  exact (sr.obj n a o e1 e2).up tk ⟨[],by simp⟩ (by rw [ch a o' ne q,q])
structure LamTx (X:Cx) (params:Arguments) (scope:Scope) (N:List Str) (js:List Nat):Prop where
 kind:scope.kind=.function
 co:scope.isCoroutine=false
 gen:scope.isGenerator=false
 nocell:∀ x∈scope.names,x.2≠.cell
 args:params={ posonlyargs:=[],args:=[],vararg:=none,kwonlyargs:=[],kw_defaults:=[],kwarg:=none,defaults:=[] }
 frees:∀ x,(x,NameKind.free)∈scope.names→X.env.scope.names.lookup x=some .cell
 len:js.length=N.length
 slot:∀ (i j:Nat),js[i]?=some j→∃ x,N[i]?=some x∧X.N[j]?=some x∧scope.names.lookup x=some .free
theorem lam_st {params:Arguments}{scope:Scope}{N:List Str}{js:List Nat}{h:Heap} (I:Inv X pins σ H s) (L:LamTx X params scope N js) (k:∀ b o,s.heap.get? b=some o→H b=none→∃ sl,h.get? b=some { o with slots:=sl }):LamSt N (stC 0 js σ) scope (clOf X.env scope.names []) H h:=by
 have ck:∀ x c v,X.env.cells.lookup x=some c→s.heap.IsCell c v→h.IsCell c v:=fun x c v e z=>by
  obtain ⟨o,e1,d⟩:=z
  obtain ⟨sl,e2⟩:=k c o e1 (I.freeC x c e)
  exact ⟨_,e2,d⟩
 have cs:∀ x,(x,NameKind.free)∈scope.names→∃ c,X.env.cells.lookup x=some c:=fun x hx=>I.ok.has x (.inl (L.frees x hx))
 have has:∀ x,(x,NameKind.free)∈scope.names→∃ c,(clOf X.env scope.names []).lookup x=some c:=fun x hx=>clOf_has scope.names [] x (.inr ⟨hx,cs x hx⟩)
 refine ⟨fun x y c h1 h2=>I.ok.inj x y c (clSub h1) (clSub h2),fun x hx=>?_,fun i x v h1 h2=>?_,fun x c e=>?_,by unfold stC; simp [L.len]⟩
 ·rcases hx with hx | hx
  ·exact absurd rfl (L.nocell _ (mem_of_look hx))
  ·exact has x (mem_of_look hx)
 ·obtain ⟨j,_,e1,e2⟩:=stC_get h2
  rw [Nat.sub_zero] at e1
  obtain ⟨x',n1,n2,n3⟩:=L.slot i j e1
  rw [h1] at n1; cases n1
  have hx:=mem_of_look n3
  have kc:=L.frees x hx
  obtain ⟨m,hn,hv⟩:=I.loc
  obtain ⟨u,r,l⟩:=hv j x v n2 e2 (.inr (.inl kc))
  obtain ⟨c,ec⟩:=has x hx
  refine ⟨u,c,r,n3,ec,?_⟩
  rcases l with ⟨l,_⟩ | ⟨_,c2,e3,z⟩
  ·have l':X.env.scope.names.lookup x=some .local:=l
   rw [kc] at l'; cases l'
  ·rw [clSub ec] at e3; cases e3
   exact ck x c _ (clSub ec) z
 ·obtain ⟨v,z⟩:=I.cell x c (clSub e)
  exact ⟨⟨v,ck x c v (clSub e) z⟩,I.freeC x c (clSub e)⟩
theorem se_take {tk x:Str}{ws:List (Str × Str)}{js:List Nat}{cb:C}{params:Arguments}{body:Expr}{scope:Scope}{N:List Str}{p lpos pos:Pos} (Tk:TakerIn X.K X.mg tk ws) (L:LamX X x) (hg:Gl X tk) (hdb:(tk == ("__debug__":Str))=false) (hr:Room 2 X.A) (lt:LamTx X params scope N js)
  (hbody:∀ (f:Addr) (cd:Value) (cl:List (Str × Addr)) (e1:Env) (outer:List Env) (s:Shared) (H:Hp) (E:XK),PE (cxLam X.prog X.w X.K X.mg X.base N (lqual x) scope f cd cl (X.A.deeper e1) outer s H E) body (tOfX (cxLam X.prog X.w X.K X.mg X.base N (lqual x) scope f cd cl (X.A.deeper e1) outer s H E) cb)) :
  PE X (.Call (.Name tk p) [.Lambda params body scope lpos] [] pos) (tOf X.K (cTake x ws js cb)):=by
 rintro pins s σ H Q I ⟨μ,ρ,S,d,S',sr,re,e,y⟩
 obtain ⟨st,fa,fd,c,yy,h0,hs,p1,p2,p3,p4,p5,p6,p7,p8,p9,j,wa,F,m,bi,Sc,bod,hc1,hc2,hl,hy1,hy2,hso,pk⟩:=Tk
 unfold cTake at e
 split at e
 ·rename_i hS
  have hS:=tbAt_some hS
  obtain ⟨T,hT0⟩:∃ T,μ[0]?=some T:=by
   have:0<μ.length:=by rw [sr.len]; exact (List.getElem?_eq_some_iff.mp hS).1
   exact ⟨_,List.getElem?_eq_getElem this⟩
  obtain ⟨ps,hT,tt⟩:=sr.obj 0 T _ hT0 hS
  have hcl:=closureFor_ok (scope:=scope) (env:=X.env) fun x hx=>I.ok.has x (.inl (lt.frees x hx))
  refine wpAny_Call_Name_kw (ld_glob I hg m ?_ hdb)
  refine W.callWith_K (h₀:=X.base) I.ok.mod.kin F.kp (Calls.spliced_cons (lam_make I L hT tt hcl (by rw [lt.args]; rfl) fun f H1 s1 la I1 kp=>Calls.spliced_nil ⟨I1.kIn,?_⟩)) rfl rfl
  obtain ⟨sr1,st1⟩:=sr.made hT0 hS hT la.ch la.tab
  obtain ⟨cv,ctv,pm,hf,cT⟩:=la.fn
  have re1:=(re.up st1).comp 0 js
  refine wpAny_call (codeAny_mono (taker_run (Q:=Q) (f:=f) F Sc bi bod hc1 hc2 hl hy1 hy2 hr.depth hr.hd I1.env0 (fun cdv=>hso _ rfl rfl rfl) fun cdv=>?_) fun r s' hq=>?_)
  ·intro pins2 σ2 s2 I2
   have hf2:s2.heap.get? f=some _:=I2.base.keep f _ hf la.free la.fr (by show f∉([]:List Addr); simp)
   refine ⟨⟨_,_,_,_,hf2⟩,?_⟩
   have hcd:s2.heap.CodeRec cv (lqual x):=by
    obtain ⟨c3,o3,vs3,t3,rfl,h3,d3,q3⟩:=cT
    exact ⟨c3,o3,vs3,t3,rfl,(I2.hok c3 _ h3).1,d3,q3⟩
   have ls:=lam_st I1 lt (h:=s2.heap) fun b o e n=>I2.base.any e n (by show b∉([]:List Addr); simp)
   refine lam_run (k:=1) (E:=fun C _ H'=>∃ w,Picks X.K C wa w∧Q (.str w) H') (hr.deeper _) (Nat.le_refl _) I2.env0 hf2 hcd lt.kind lt.co lt.gen lt.nocell (by rw [lt.args]; rfl) ls (hbody _ _ _ _ _ _ _ _) ⟨μ,stE 0 js ρ,S,sr1,re1,?_⟩
   revert e
   cases cb (stE 0 js ρ) S with
   | bad=>exact fun e=>by cases e
   | ok d' S2 =>
    intro e
    cases e
    exact fun v H2 μ2 sr2 st2 rv=>y _ H2 μ2 sr2 (st1.trans st2 sr2.nd) rv_non
   | er k S2 =>
    intro e H2 μ2 sr2 st2 C hC
    dsimp only at e
    split at e
    ·rename_i w hw
     cases e
     exact ex_own lam_own ⟨w,pk k w C hw hC,y _ H2 μ2 sr2 (st1.trans st2 sr2.nd) rv_str⟩
    ·cases e
  ·cases r with
   | error e=>exact False.elim hq
   | ok fl =>
    cases fl with
    | ret u=>exact I1.after hq
    | next=>exact False.elim hq
    | brk=>exact False.elim hq
    | cont=>exact False.elim hq
 ·cases e
end
open PySem PySem.Spec PyProof.Rows
noncomputable def xoL:List Str:=["TooMany","NoContact","NoBridge","NoName","BadNote","NoPlace","NoTable"]
noncomputable def exG (K:W.Frag) (c:Str):Option Addr:=match W.nsIn K mainGlobals c with
 | some (some (.ref C))=>some C
 | _=>none
theorem exG_ns {K:W.Frag}{c:Str}{C:Addr} (h:exG K c=some C):W.nsIn K mainGlobals c=some (some (.ref C)):=by
 unfold exG at h
 split at h
 ·rename_i q; cases h; exact q
 ·cases h
theorem ns_exG {K:W.Frag}{c:Str}{C:Addr} (h:W.nsIn K mainGlobals c=some (some (.ref C))):exG K c=some C:=by unfold exG; rw [h]
noncomputable def exOne (K:W.Frag) (c:Str):Bool:=match exG K c with
 | some C=>W.findIn K (.ref C) "__getattribute__" == some (some (.builtin "BaseException.__getattribute__"))&&W.findIn K (.ref C) "__class__" == some (some (.builtin "object.__class__"))&&W.mroIn K C (.type "object") == some true&&W.mroIn K C (.type "BaseException") == some true
   && W.findIn K (.ref C) "__getattr__" == some none&&(W.clsIn K C).isSome&&W.kitOne K (.ref C) (.type "ValueError") == some true&&W.kitOne K (.type "NoneType") (.ref C) == some false
 | none=>false
noncomputable def exTwo (K:W.Frag) (c g:Str):Bool:=match exG K c,exG K g with
 | some C,some G=>W.kitOne K (.ref C) (.ref G) == some (c == g)
 | _,_=>false
noncomputable def exAll (K:W.Frag):Bool:=xoL.all fun c=>exOne K c&&xoL.all fun g=>exTwo K c g
theorem exAll_one {K:W.Frag} (h:exAll K=true) {c:Str} (hc:c∈xoL):∃ C,exG K c=some C∧ExcG K C∧W.kitOne K (.ref C) (.type "ValueError")=some true∧W.kitOne K (.type "NoneType") (.ref C)=some false:=by
 have h1:=(Bool.and_eq_true_iff.mp (List.all_eq_true.mp h c hc)).1
 unfold exOne at h1
 split at h1
 ·rename_i C q
  simp only [Bool.and_eq_true,beq_iff_eq] at h1
  obtain ⟨⟨⟨⟨⟨⟨⟨a1,a2⟩,a3⟩,a4⟩,a5⟩,a6⟩,a7⟩,a8⟩:=h1
  exact ⟨C,q,⟨a1,a2,a3,a4,a5,a6⟩,a7,a8⟩
 ·cases h1
theorem exAll_two {K:W.Frag} (h:exAll K=true) {c g:Str} (hc:c∈xoL) (hg:g∈xoL) {C G:Addr} (e1:exG K c=some C) (e2:exG K g=some G):W.kitOne K (.ref C) (.ref G)=some (c == g):=by
 have h1:=List.all_eq_true.mp (Bool.and_eq_true_iff.mp (List.all_eq_true.mp h c hc)).2 g hg
 unfold exTwo at h1
 rw [e1,e2] at h1
 exact beq_iff_eq.mp h1
noncomputable def oIsX (g:Str):D→M D:=fun x S=>match x with
 | .xc c=>if c∈xoL then .ok (.bl (c == g||g == ("ValueError":Str))) S else .bad
 | .non=>.ok (.bl false) S
 | _=>.bad
section
variable {X:Cx}{a:Expr}{ca:C}{g:Str}{p p2 pos:Pos}
theorem isx_call {pins:List (Addr × Obj)}{σ:St}{H:Hp}{s:Shared}{Q:VK}{G:Value}{d:D}{v:V}{u:Value}{b:Bool}{μ:List Addr} (I:Inv X pins σ H s) (r:RelV v u) (rv:RV X.K H μ d v) (xk:exAll X.K=true)
  (e:d=.non∧W.kitOne X.K (.type "NoneType") G=some b∨∃ c C,d=.xc c∧c∈xoL∧exG X.K c=some C∧W.kitOne X.K (.ref C) G=some b) (q:Q (.bl b) H):wpAny (model X.prog X.w) X.A (call (.builtin "isinstance") [u,G]) (EP X pins σ Q) X.xe s:=by
 rcases e with ⟨rfl,e⟩ | ⟨c,C,rfl,hc,hC,e⟩
 ·unfold RV at rv; subst rv
  cases (show u=Value.none from r)
  exact W.kia_one W.kitx_none I.kIn True.intro e (fun z=>nomatch z) fun tk=>⟨.bl b,H,I.tok tk,rfl,q⟩
 ·unfold RV at rv
  obtain ⟨ea,oe,C',rfl,h1,h2,h3⟩:=rv
  have:=ns_exG h3
  rw [hC] at this; cases this
  cases (show u=Value.ref ea from r)
  obtain ⟨C2,k1,k2,_⟩:=exAll_one xk hc
  rw [hC] at k1; cases k1
  exact W.kia_one (kitx_exc k2) I.kIn ⟨oe,(I.hok ea _ h1).1,h2⟩ e (fun z=>nomatch z) fun tk=>⟨.bl b,H,I.tok tk,rfl,q⟩
theorem se_isx (ha:PE X a (tOf X.K ca)) (hg0:Gl X "isinstance") (hm0:X.mg "isinstance"=none) (xk:exAll X.K=true)
  (hg:(g = "ValueError"∧Gl X g∧X.mg g=none)∨(g∈xoL∧Gl X g∧(∃ G,X.mg g=some (.ref G)∧exG X.K g=some G)∧(g == ("__debug__":Str))=false)) (h1:starEach [a,.Name g p2] X.env=(false,eval a X.env)::starEach [.Name g p2] X.env) :
  PE X (.Call (.Name "isinstance" p) [a,.Name g p2] [] pos) (tOf X.K (cUn (oIsX g) ca)):=by
 obtain ⟨gv,gu,hgv,hpe,kN,kX⟩:∃ (gv:V) (gu:Value),(∀ u,RelV gv u→u=gu)∧PE X (.Name g p2) (tC gv)∧W.kitOne X.K (.type "NoneType") gu=some false∧∀ c C,c∈xoL→exG X.K c=some C→W.kitOne X.K (.ref C) gu=some (c == g||g == ("ValueError":Str)):=by
  rcases hg with ⟨rfl,hg,hm⟩ | ⟨hx,hg,⟨G,hm,hG⟩,hd⟩
  ·refine ⟨.ty "ValueError",.type "ValueError",fun u h=>h,pe_bltn hg hm (by decide +kernel) rfl (by decide +kernel) (by decide +kernel),rfl,fun c C hc hC=>?_⟩
   obtain ⟨C',k1,_,k3,_⟩:=exAll_one xk hc
   rw [hC] at k1; cases k1
   rw [k3,beq_self_eq_true,Bool.or_true]
  ·obtain ⟨G',k1,_,_,k4⟩:=exAll_one xk hx
   rw [hG] at k1; cases k1
   refine ⟨.ref G,.ref G,fun u h=>h,pe_glob hg hm rfl hd,k4,fun c C hc hC=>?_⟩
   rw [exAll_two xk hc hx hC hG]
   have:(g == ("ValueError":Str))=false:=by
    simp only [xoL,List.mem_cons,List.not_mem_nil,or_false] at hx
    rcases hx with rfl | rfl | rfl | rfl | rfl | rfl | rfl <;> decide +kernel
   rw [this,Bool.or_false]
 have hc:CallR X (.builtin "isinstance") (fun vs H Q=>∃ v d μ b,vs=[v,gv]∧RV X.K H μ d v∧(d=.non∧W.kitOne X.K (.type "NoneType") gu=some b∨∃ c C,d=.xc c∧c∈xoL∧exG X.K c=some C∧W.kitOne X.K (.ref C) gu=some b)∧Q (.bl b) H):=by
  intro pins s σ H xs us Q I r h
  obtain ⟨v,d,μ,b,rfl,rv,e,q⟩:=h
  obtain ⟨u,u2,rfl,ru,r2⟩:=vals2 r
  have:=hgv u2 r2
  subst this
  exact isx_call I ru rv xk e q
 refine (pe_callB hc hg0 hm0 (by decide +kernel) (pa_cons ha (pa_cons hpe pa_nil) h1) (by decide +kernel) (by decide +kernel) h1 rfl).weak ?_
 rintro σ H Q ⟨μ,ρ,S,d,S',sr,re,e,y⟩
 obtain ⟨x,S1,e1,e⟩:=bnd_ok e
 refine ⟨μ,ρ,S,x,S1,sr,re,e1,fun v H1 μ1 sr1 st1 r1=>?_⟩
 unfold oIsX at e
 split at e
 ·rename_i c
  split at e
  ·rename_i hc
   cases e
   obtain ⟨C,k1,_⟩:=exAll_one xk hc
   exact ⟨v,_,μ1,_,rfl,r1,.inr ⟨c,C,rfl,hc,k1,kX c C hc k1⟩,(y.shift st1).self sr1 rv_bl⟩
  ·cases e
 ·cases e
  exact ⟨v,_,μ1,_,rfl,r1,.inl ⟨rfl,kN⟩,(y.shift st1).self sr1 rv_bl⟩
 ·cases e
end
open PySem PySem.Spec PyProof.Rows
noncomputable def rfE (n:Nat) (d:D):Env1:=none::some d::List.replicate (n - 2) none
noncomputable def endR:RS→R D
 | .rt d S=>.ok d S
 | .nx _ S=>.ok .non S
 | _=>.bad
noncomputable def cRefuse (x:Str) (n:Nat) (b:CS) (js:List Nat) (cb:C):C:=fun ρ S=>if tbAt S=some x then (match cb (stE 0 js ρ) S with
 | .ok _ S'=>endR (b (rfE n .non) S')
 | .er c S'=>if c∈xoL then endR (b (rfE n (.xc c)) S') else .bad
 | .bad=>.bad) else .bad
noncomputable def rfBody (c y en g:Str) (p1 p2 p3 p4 p5 p6 p7 q1 q2 q3 q4 q5:Pos) (j:Nat) (rest:List Stmt):List Stmt :=
 .Assign [.Name y p1] (.Constant .none j p2) p3::.Try [.Expr (.Call (.Name c p4) [] [] p5) p6] [.ExceptHandler (some (.Name g q1)) (some en) [.Assign [.Name y q2] (.Name en q3) q4] q5] [] [] p7::rest
structure RfTx (st:Stmt) (c y en g:Str) (N:List Str) (rest:List Stmt):Prop where
 body:∃ p1 p2 p3 p4 p5 p6 p7 q1 q2 q3 q4 q5 j,defBody st=rfBody c y en g p1 p2 p3 p4 p5 p6 p7 q1 q2 q3 q4 q5 j rest
 sc:FnScope N [c] (defScope st)
 n:∃ more,N=c::y::en::more
 ly:(defScope st).names.lookup y=some .local
 le:(defScope st).names.lookup en=some .local
 lg:(defScope st).names.lookup g=some .globalImplicit
 c1:(c == ("__debug__":Str))=false
 c2:(c == ("__classdict__":Str))=false
 e1:(en == ("__debug__":Str))=false
 e2:(en == ("__classdict__":Str))=false
 g1:(g == ("__debug__":Str))=false
inductive RefIn (P:Program) (w:World) (K:W.Frag) (mg:Str→Option Value) (base:Heap) (tk:Str) (n:Nat) (b:CS):Prop
 | mk (st:Stmt) (fa:Addr) (fd:FuncData) (c y en g:Str) (N:List Str) (rest:List Stmt) (C:Addr) (F:Fun K tk tk st fa fd) (m:mg tk=some (.ref fa)) (bi:Binds K fd [c] []) (tx:RfTx st c y en g N rest) (hl:N.length=n) (hm:mg g=some (.ref C))
   (hx:∀ x∈xoL,∀ D,exG K x=some D→mg x=some (.ref D)∧W.exmOne K (.ref D) (.ref C)=some true)
   (rs:∀ (cdv:Value) (A:Around) (outer:List Env) (s:Shared) (H:Hp),Room 1 A→PSs (cxOf CX0 P w K mg base N tk (defScope st) fa cdv A outer s H E0) rest (tOfS (cxOf CX0 P w K mg base N tk (defScope st) fa cdv A outer s H E0) b))
section
variable {P:Program}{w:World}{K:W.Frag}{mg:Str→Option Value}{base:Heap}
theorem refuse_run {tk c y en g:Str}{st:Stmt}{fa f C:Addr}{fd:FuncData}{N:List Str}{rest:List Stmt}{b:CS}{A:Around}{outer:List Env}{s:Shared}{H:Hp}{Q:VK} (F:Fun K tk tk st fa fd) (bi:Binds K fd [c] []) (tx:RfTx st c y en g N rest) (hm:mg g=some (.ref C))
  (rs:∀ (cdv:Value),PSs (cxOf CX0 P w K mg base N tk (defScope st) fa cdv A outer s H E0) rest (tOfS (cxOf CX0 P w K mg base N tk (defScope st) fa cdv A outer s H E0) b))
  (hd:A.depth<recursionLimit) (hh:A.handled=none) (e0:Env0 P w K mg base A outer s H)
  (lc:∀ cdv,LamC (cxOf CX0 P w K mg base N tk (defScope st) fa cdv A outer s H E0) f H (fun _ H'=>tOfS (cxOf CX0 P w K mg base N tk (defScope st) fa cdv A outer s H E0) b { nx:=fun _ H'=>Q .non H',rt:=Q } (some (.ref f)::some .non::List.replicate (N.length - 2) none) H')
   fun D _ H'=>W.exmOne K D (.ref C)=some true∧∀ e oe,H' e=none→oe.cls=D→tOfS (cxOf CX0 P w K mg base N tk (defScope st) fa cdv A outer s H E0) b { nx:=fun _ H'=>Q .non H',rt:=Q } (some (.ref f)::some (.ref e)::List.replicate (N.length - 2) none) (upd H' e (xrec e oe))) :
  codeAny (model P w) A (.call (.ref fa) ⟨[.ref f],[]⟩) (CR CX0 outer P w H s Q E0) s:=by
 obtain ⟨oc,od,kV,doc,pm,an,cdv,ct,osl,rfl,lk,hcd⟩:=F.ex
 have S:=tx.sc
 obtain ⟨more,hN⟩:=tx.n
 obtain ⟨p1,p2,p3,p4,p5,p6,p7,q1,q2,q3,q4,q5,j,hbody⟩:=tx.body
 have KX:K.In s.heap:=e0.mod.kin.keeps fun b o e=>(e0.bs b o e).1
 have lim:s.heap.NoLimit:=e0.mod.nolimit.keeps fun b o e=>(e0.bs b o e).1
 have hkind:∀ z∈[(c,Value.ref f)],(defScope st).names.lookup z.1=some .local∨((defScope st).names.lookup z.1=some .cell∧((cellsFrom (s.heap.objs.size+1) (defScope st).names []).lookup z.1).isSome=true):=fun z hz=>by
  simp only [List.mem_cons,List.not_mem_nil,or_false] at hz
  subst hz
  rcases S.par c (by simp) with q | q
  ·exact .inl q
  ·exact .inr ⟨q,W.cellsFrom_some _ _ _ (.inl q)⟩
 refine codeAny_call_function hd (KX _ _ lk) rfl S.co S.gen rfl (W.codeRec_of KX hcd) (bi s [.ref f] KX rfl _ _ _ _ (wpAny_newFunctionEnv_cells S.kind hkind fun env he s1 z=>?_))
 subst he
 refine ⟨lim.keeps z.toInCall.keep,codeAny_func ?_⟩
 have I:Inv (cxOf CX0 P w K mg base N tk (defScope st) fa cdv A outer s H E0) [] (start N [.ref f]) H s1:=inv_start S hh e0 rfl (.cons rfl .nil) z
 rw [hbody]
 obtain ⟨X,hX⟩:∃ X,cxOf CX0 P w K mg base N tk (defScope st) fa cdv A outer s H E0=X:=⟨_,rfl⟩
 have hNX:X.N=N:=by rw [← hX]; rfl
 have i0:X.N[0]?=some c:=by rw [hNX,hN]; rfl
 have i1:X.N[1]?=some y:=by rw [hNX,hN]; rfl
 have i2:X.N[2]?=some en:=by rw [hNX,hN]; rfl
 have hn:X.N.Nodup:=by rw [hNX]; exact S.nd
 have hv:Vis X.env.scope c:=by
  rw [← hX]
  exact (S.par c (by simp)).elim .inl fun q=>.inr (.inl q)
 have ly:X.env.scope.names.lookup y=some .local:=by rw [← hX]; exact tx.ly
 have le:X.env.scope.names.lookup en=some .local:=by rw [← hX]; exact tx.le
 have lg:Gl X g:=by rw [← hX]; exact tx.lg
 have mg':X.mg g=some (.ref C):=by rw [← hX]; exact hm
 have a:=ps_asg (pos:=p3) (pe_non (X:=X) (j:=j) (pos:=p2)) (pg_name (pos:=p1) hn i1 (.inl ly) (.inr ly))
 have t:=ps_takeE (X:=X) (i:=0) (k:=2) (j:=1) (p1:=p4) (p2:=p5) (p3:=p6) (p4:=p7) (p:=q1) (q:=q2) (q2:=q3) (q3:=q4) (q4:=q5) (f:=f) (by rw [← hX]; rfl) (by rw [← hX]; rfl) (by rw [← hX]; rfl) hn i0 hv tx.c1 tx.c2 lg mg' tx.g1 i2 le tx.e1 tx.e2 i1 ly
 have rs':=rs cdv
 have lc':=lc cdv
 have ln:N.length=more.length+3:=by rw [hN]; simp
 have e1:(start N [V.ref f]).set 1 (some .non)=some (.ref f)::some .non::List.replicate (N.length - 2) none:=by
  unfold start
  rw [ln]
  rfl
 have e2:∀ e:Addr,((((start N [V.ref f]).set 1 (some .non)).set 2 (some (.ref e))).set 1 (some (.ref e))).set 2 none=some (.ref f)::some (.ref e)::List.replicate (N.length - 2) none:=fun e=>by
  rw [e1,ln]
  rfl
 have e3:X.K=K:=by rw [← hX]; rfl
 rw [hX] at rs' lc' I
 have eP:X.prog=P:=by rw [← hX]; rfl
 have eW:X.w=w:=by rw [← hX]; rfl
 have run:=pss_cons a (pss_cons t rs') [] s1 _ H { nx:=fun _ H'=>Q .non H',rt:=Q } I ⟨by rw [e1]; rfl,fun pins σ s2 I2=>?_⟩
 ·rw [← hX] at run
  refine wpAny_mono run (fun fl s' q=>?_) fun e s' q=>q
  cases fl with
  | ret u =>
   obtain ⟨v,σ',H',J,rv,q⟩:=q
   exact ⟨v,H',J.os,J.bare,J.base,J.hok,rv,q⟩
  | next =>
   obtain ⟨σ',H',J,q⟩:=q
   exact ⟨.non,H',J.os,J.bare,J.base,J.hok,rfl,q⟩
  | brk =>
   obtain ⟨_,_,_,q⟩:=q
   exact False.elim q
  | cont =>
   obtain ⟨_,_,_,q⟩:=q
   exact False.elim q
 ·obtain ⟨z1,z2⟩:=lc' pins σ s2 I2
  refine ⟨z1,codeAny_mono z2 fun r s' q=>?_⟩
  cases r with
  | error ev =>
   obtain ⟨e,T,D,H',rfl,tr,ne,nT,os,bare,un,hok,he,hT,hx,hD⟩:=q
   refine ⟨e,T,D,H',rfl,tr,ne,nT,os,bare,un,hok,he,hT,by rw [e3]; exact hx,fun e oe q1 q2=>?_⟩
   rw [e2]
   exact hD e oe q1 q2
  | ok fl =>
   cases fl with
   | ret u =>
    obtain ⟨v,H',os,bare,un,hok,r,q⟩:=q
    refine ⟨v,H',os,bare,un,hok,r,?_⟩
    show tOfS X b _ ((start N [V.ref f]).set 1 (some .non)) H'
    rw [e1]
    exact q
   | next=>exact q
   | brk=>exact q
   | cont=>exact q
end
section
variable {X:Cx}{pins:List (Addr × Obj)}{σ:St}{H H':Hp}{s:Shared}{K:W.Frag}{μ:List Addr}{S:Store}
theorem rfE_re {n:Nat}{d:D}{v w:V} (r:RV K H μ d v):RE K H μ (rfE n d) (some w::some v::List.replicate (n - 2) none):=by
 refine ⟨by simp [rfE],fun i d' e=>?_⟩
 unfold rfE at e
 match i,e with
 | 0,e=>simp at e
 | 1,e=>simp at e; subst e; exact ⟨v,rfl,r⟩
 | i+2,e =>
  simp only [List.getElem?_cons_succ] at e
  rw [List.getElem?_replicate] at e
  split at e <;> cases e
theorem rf_post {b:CS}{Q:VK}{d:D}{ρ:Env1}{S S':Store} (e:endR (b ρ S)=.ok d S') (y:Yld X.K μ H d S' Q):PostS X μ H { nx:=fun _ H'=>Q .non H',rt:=Q } (b ρ S):=by
 revert e
 cases b ρ S with
 | rt d' S2=>intro e; cases e; exact y
 | nx ρ' S2=>intro e; cases e; exact fun σ' H' μ' sr st re=>y _ H' μ' sr st rv_non
 | bad=>intro e; cases e
 | er _ _=>intro e; cases e
 | bk _ _=>intro e; cases e
 | ct _ _=>intro e; cases e
theorem se_refuse {tk x:Str}{n:Nat}{b:CS}{js:List Nat}{cb:C}{params:Arguments}{body:Expr}{scope:Scope}{N:List Str}{p lpos pos:Pos} (Rk:RefIn X.prog X.w X.K X.mg X.base tk n b) (xe:∀ c∈xoL,∀ C,X.mg c=some (.ref C)→exG X.K c=some C) (L:LamX X x) (hg:Gl X tk) (hdb:(tk == ("__debug__":Str))=false) (hr:Room 2 X.A) (lt:LamTx X params scope N js)
  (hbody:∀ (f:Addr) (cd:Value) (cl:List (Str × Addr)) (e1:Env) (outer:List Env) (s:Shared) (H:Hp) (E:XK),PE (cxLam X.prog X.w X.K X.mg X.base N (lqual x) scope f cd cl (X.A.deeper e1) outer s H E) body (tOfX (cxLam X.prog X.w X.K X.mg X.base N (lqual x) scope f cd cl (X.A.deeper e1) outer s H E) cb)) :
  PE X (.Call (.Name tk p) [.Lambda params body scope lpos] [] pos) (tOf X.K (cRefuse x n b js cb)):=by
 rintro pins s σ H Q I ⟨μ,ρ,S,d,S',sr,re,e,y⟩
 obtain ⟨st,fa,fd,c,yy,en,g,N',rest,C,F,m,bi,tx,hl,hm,hx,rs⟩:=Rk
 unfold cRefuse at e
 split at e
 ·rename_i hS
  have hS:=tbAt_some hS
  obtain ⟨T,hT0⟩:∃ T,μ[0]?=some T:=by
   have:0<μ.length:=by rw [sr.len]; exact (List.getElem?_eq_some_iff.mp hS).1
   exact ⟨_,List.getElem?_eq_getElem this⟩
  obtain ⟨ps,hT,tt⟩:=sr.obj 0 T _ hT0 hS
  have hcl:=closureFor_ok (scope:=scope) (env:=X.env) fun x hx=>I.ok.has x (.inl (lt.frees x hx))
  refine wpAny_Call_Name_kw (ld_glob I hg m ?_ hdb)
  refine W.callWith_K (h₀:=X.base) I.ok.mod.kin F.kp (Calls.spliced_cons (lam_make I L hT tt hcl (by rw [lt.args]; rfl) fun f H1 s1 la I1 kp=>Calls.spliced_nil ⟨I1.kIn,?_⟩)) rfl rfl
  obtain ⟨sr1,st1⟩:=sr.made hT0 hS hT la.ch la.tab
  obtain ⟨cv,ctv,pm,hf,cT⟩:=la.fn
  have re1:=(re.up st1).comp 0 js
  refine wpAny_call (codeAny_mono (refuse_run (Q:=Q) (f:=f) (b:=b) F bi tx hm (fun cdv=>rs cdv _ _ _ _ (hr.mono (by omega))) hr.depth hr.hd I1.env0 fun cdv=>?_) fun r s' hq=>?_)
  ·intro pins2 σ2 s2 I2
   have hf2:s2.heap.get? f=some _:=I2.base.keep f _ hf la.free la.fr (by show f∉([]:List Addr); simp)
   refine ⟨⟨_,_,_,_,hf2⟩,?_⟩
   have hcd:s2.heap.CodeRec cv (lqual x):=by
    obtain ⟨c3,o3,vs3,t3,rfl,h3,d3,q3⟩:=cT
    exact ⟨c3,o3,vs3,t3,rfl,(I2.hok c3 _ h3).1,d3,q3⟩
   have ls:=lam_st I1 lt (h:=s2.heap) fun b o e n=>I2.base.any e n (by show b∉([]:List Addr); simp)
   refine lam_run (k:=1) (hr.deeper _) (Nat.le_refl _) I2.env0 hf2 hcd lt.kind lt.co lt.gen lt.nocell (by rw [lt.args]; rfl) ls (hbody _ _ _ _ _ _ _ _) ⟨μ,stE 0 js ρ,S,sr1,re1,?_⟩
   revert e
   cases cb (stE 0 js ρ) S with
   | bad=>exact fun e=>by cases e
   | ok d' S2 =>
    intro e v H2 μ2 sr2 st2 rv
    refine ⟨μ2,rfE n .non,S2,sr2,by rw [hl]; exact rfE_re rv_non,?_⟩
    exact rf_post e (y.shift (st1.trans st2 sr2.nd))
   | er k S2 =>
    intro e H2 μ2 sr2 st2 C' hC
    dsimp only at e
    split at e
    ·rename_i hk
     have hC2:=xe k hk C' hC
     refine ex_own lam_own ⟨(hx k hk C' hC2).2,fun ea oe hn hoc=>?_⟩
     obtain ⟨sr3,st3⟩:=sr2.other (o:=xrec ea oe) hn
     refine ⟨μ2,rfE n (.xc k),S2,sr3,?_,?_⟩
     ·rw [hl]
      refine rfE_re ?_
      unfold RV
      exact ⟨ea,oe,C',rfl,upd_same,hoc,exG_ns hC2⟩
     ·exact rf_post e (y.shift ((st1.trans st2 sr2.nd).trans st3 sr3.nd))
    ·cases e
  ·cases r with
   | error e=>exact False.elim hq
   | ok fl =>
    cases fl with
    | ret u=>exact I1.after hq
    | next=>exact False.elim hq
    | brk=>exact False.elim hq
    | cont=>exact False.elim hq
 ·cases e
end
open PySem PySem.Spec PyProof.Rows
structure Sc where
 N:List Str
 names:List (Str × NameKind)
 fn:Option Str
noncomputable abbrev excL:List Str:=xoL
noncomputable def rzL:List Str:=["refuse_no_place","refuse_no_contact","net_within","in_row","side_by_side","net_of"]
noncomputable def lamD:Str := "_law_right"
noncomputable def tkL:List (Str × List (Str × Str)):=[]
noncomputable def rfB:CS:=(sSeq (sAsg (cLst (cArgs [(cUn (oIsX "TooMany") (cVar 1)),(cUn (oIsX "NoContact") (cVar 1)),(cUn (oIsX "NoBridge") (cVar 1))])) (gN 3)) (sSeq (sAsg (cBin oAdd (cVar 3) (cLst (cArgs [(cUn (oIsX "NoName") (cVar 1)),(cUn (oIsX "BadNote") (cVar 1)),(cUn (oIsX "NoPlace") (cVar 1))]))) (gN 3)) (sSeq (sExpr (cMeth "list" (mList gAppend) (cVar 3) (cArgs [(cUn (oIsX "NoTable") (cVar 1))]))) (sSeq (sIf (cNotT (cTru (cUn (oIsX "ValueError") (cVar 1)))) (sSeq (sRet (cCon .non)) sPass) sPass) (sSeq (sRet (cComp (iRange1 (cArgs [(cCon (.int 7))])) 1 [3] .one ((cTru (cBin oIx (cVar 1) (cVar 0)))) ((cVar 0)))) sPass)))))
noncomputable def rfN:List Str:=["_law_refused"]
noncomputable def bltL:List Str:=["len","range","list","tuple","min","max","zip","isinstance","all","any","int","bool","enumerate","str","sorted","dict","sum","repr","set","abs"]
noncomputable def txL:List (Str × Str):=[("FIGURES","0123456789")]
structure MgOk (ar:Str→Option Nat) (mg:Str→Option Value):Prop where
 b:∀ y:Str,y∈bltL→ar y=none→mg y=none
 t:∀ x z,txL.lookup x=some z→∃ t,mg x=some (.str z t)
structure XOk (X:Cx) (sc:Sc) (ar:Str→Option Nat) (cl:Str→List D→M D) (k:Nat):Prop where
 calm:X.calm=true
 N:X.N=sc.N
 nd:sc.N.Nodup
 gl:∀ x,sc.names.lookup x=some .globalImplicit→Gl X x
 loc:∀ x,sc.names.lookup x=some .local→X.env.scope.names.lookup x=some .local
 cel:∀ x,sc.names.lookup x=some .cell→X.env.scope.names.lookup x=some .cell
 fre:∀ x,sc.names.lookup x=some .free→X.env.scope.names.lookup x=some .cell∨X.env.scope.names.lookup x=some .free
 fnn:sc.fn.isSome=true→∀ x,X.fn x=true
 room:Room (3*k) X.A
 roomT:sc.fn=some lamD→Room (3*k+2) X.A
 lam:sc.fn=some lamD→LamX X lamD
 tk:sc.fn=some lamD→∀ t ws,tkL.lookup t=some ws→TakerIn X.K X.mg t ws
 rf:sc.fn=some lamD→∀ t∈rfN,RefIn X.prog X.w X.K X.mg X.base t 4 rfB
 xk:exAll X.K=true
 xm:∀ c∈xoL,∃ C,X.mg c=some (.ref C)∧exG X.K c=some C
 xv:X.mg "ValueError"=none
 own:PassesOwn (model X.prog X.w) X.A X.env X.xe
 exc:∀ x∈excL,∃ C,X.mg x=some (.ref C)∧ExcK X.K C
 blt:MgOk ar X.mg
 fns:∀ x n,ar x=some n→(∃ ps,CalleeX X.prog X.w X.K X.mg X.base x ps (3*k) (spOfX X.K X.mg (cl x) n))∧∀ ds S,cl x ds S≠.bad→ds.length=n
section
variable {X:Cx}{sc:Sc}{ar:Str→Option Nat}{cl:Str→List D→M D}{k:Nat}
theorem XOk.vis (h:XOk X sc ar cl k) {x:Str} (hv:sc.names.lookup x=some .local∨sc.names.lookup x=some .cell∨sc.names.lookup x=some .free):Vis X.env.scope x:=by
 rcases hv with q | q | q
 ·exact .inl (h.loc x q)
 ·exact .inr (.inl (h.cel x q))
 ·exact .inr (h.fre x q)
noncomputable def isVis (o:Option NameKind):Bool:=o == some .local||o == some .cell||o == some .free
theorem isVis_or {o:Option NameKind} (h:isVis o=true):o=some .local∨o=some .cell∨o=some .free:=by
 unfold isVis at h
 simp only [Bool.or_eq_true,beq_iff_eq] at h
 rcases h with (h | h) | h
 ·exact .inl h
 ·exact .inr (.inl h)
 ·exact .inr (.inr h)
noncomputable def slotOf:List Str→Str→Nat→Option Nat
 | [],_,_=>none
 | y::r,x,i=>if y=x then some i else slotOf r x (i+1)
theorem slotOf_get:∀ {N:List Str}{x:Str}{i j:Nat},slotOf N x i=some j→i≤j∧N[j - i]?=some x
 | [],_,_,_,h=>by cases h
 | y::r,x,i,j,h=>by
  unfold slotOf at h
  split at h
  ·rename_i e; cases h; subst e; exact ⟨Nat.le_refl _,by simp⟩
  ·obtain ⟨h1,h2⟩:=slotOf_get h
   refine ⟨by omega,?_⟩
   have e:j - i=(j - (i+1))+1:=by omega
   rw [e,List.getElem?_cons_succ]; exact h2
noncomputable def cName (sc:Sc) (ar:Str→Option Nat) (x:Str):Option C:=match slotOf sc.N x 0 with
 | some i=>if isVis (sc.names.lookup x)&&!(x == ("__debug__":Str))&&!(x == ("__classdict__":Str)) then some (cVar i) else none
 | none=>if sc.names.lookup x=some .globalImplicit∧ar x=none then
   (if x=("int":Str) then some (cCon (.ty "int")) else if x=("bool":Str) then some (cCon (.ty "bool")) else if x=("tuple":Str) then some (cCon (.ty "tuple"))
    else if x=("list":Str) then some (cCon (.ty "list")) else if x=("str":Str) then some (cCon (.ty "str"))
    else if (x == ("__debug__":Str))=false then (txL.lookup x).map fun z=>cCon (.str z)
    else none)
  else none
theorem s_name (h:XOk X sc ar cl k) {x:Str}{pos:Pos}{c:C} (e:cName sc ar x=some c):PE X (.Name x pos) (tOf X.K c):=by
 unfold cName at e
 split at e
 ·rename_i i hi
  split at e
  ·rename_i hv
   cases e
   simp only [Bool.and_eq_true,Bool.not_eq_true'] at hv
   obtain ⟨⟨h1,h2⟩,h3⟩:=hv
   have:=(slotOf_get hi).2
   exact se_var (pe_var (by rw [h.N]; exact this) (h.vis (isVis_or h1)) h2 h3)
  ·cases e
 ·split at e
  ·rename_i hg
   have g:=h.gl x hg.1
   have ty:∀ (n:String) (b:bootBuiltins x=some (.type n)) (hn:x ≠ "__name__") (hd:(x == ("__debug__":Str))=false) (hm:X.mg x=none),PE X (.Name x pos) (tOf X.K (cCon (.ty n))):=fun n b hn hd hm =>
    se_con (pe_bltn (v:=.ty n) g hm b rfl hn hd) fun K H μ=>by unfold RV; rfl
   split at e
   ·rename_i q; subst q; cases e
    exact ty "int" bt_int (by decide +kernel) (by decide +kernel) (h.blt.b _ (by decide +kernel) hg.2)
   ·split at e
    ·rename_i q; subst q; cases e
     exact ty "bool" bt_bool (by decide +kernel) (by decide +kernel) (h.blt.b _ (by decide +kernel) hg.2)
    ·split at e
     ·rename_i q; subst q; cases e
      exact ty "tuple" bt_tuple (by decide +kernel) (by decide +kernel) (h.blt.b _ (by decide +kernel) hg.2)
     ·split at e
      ·rename_i q; subst q; cases e
       exact ty "list" bt_list (by decide +kernel) (by decide +kernel) (h.blt.b _ (by decide +kernel) hg.2)
      ·split at e
       ·rename_i q; subst q; cases e
        exact ty "str" bt_str (by decide +kernel) (by decide +kernel) (h.blt.b _ (by decide +kernel) hg.2)
       ·split at e
        ·rename_i hd
         obtain ⟨z,hz,rfl⟩:=Option.map_eq_some_iff.mp e
         obtain ⟨tk,hm⟩:=h.blt.t x z hz
         exact se_con (pe_glob (v:=.str z) g hm ⟨tk,rfl⟩ hd) fun _ _ _=>rv_str
        ·cases e
  ·cases e
noncomputable def cConst:Const→Option C
 | .none=>some (cCon .non)
 | .bool b=>some (cCon (.bl b))
 | .int i=>some (cCon (.int i))
 | .str x=>some (cCon (.str x))
 | _=>none
theorem s_const {v:Const}{j:Nat}{pos:Pos}{c:C} (e:cConst v=some c):PE X (.Constant v j pos) (tOf X.K c):=by
 cases v with
 | none=>cases e; exact se_con pe_non fun _ _ _=>rv_non
 | bool b=>cases e; exact se_con pe_bl fun _ _ _=>rv_bl
 | int i=>cases e; exact se_con pe_int fun _ _ _=>rv_int
 | str x=>cases e; exact se_con pe_str fun _ _ _=>rv_str
 | _=>cases e
noncomputable def opBin:Operator→Option (D→D→M D)
 | .Add=>some oAdd
 | .Sub=>some (oInt fun i j=>i - j)
 | .Mult=>some oMul
 | .Mod=>some oMod
 | .FloorDiv=>some oDiv
 | .Pow=>some oPow
 | .LShift=>some oShl
 | .RShift=>some oShr
 | .BitAnd=>some (oInt Builtin.bitAnd)
 | .BitOr=>some (oInt Builtin.bitOr)
 | .BitXor=>some (oInt Builtin.bitXor)
 | _=>none
theorem s_op {op:Operator}{o:D→D→M D} (e:opBin op=some o):OpS X.K (rAny X (binaryOp op)) o:=by
 cases op with
 | Add=>cases e; exact os_add
 | Sub=>cases e; exact os_sub
 | Mult=>cases e; exact os_mul
 | Mod=>cases e; exact os_mod
 | FloorDiv=>cases e; exact os_div
 | Pow=>cases e; exact os_pow
 | LShift=>cases e; exact os_shl
 | RShift=>cases e; exact os_shr
 | BitAnd=>cases e; exact os_and
 | BitOr=>cases e; exact os_or
 | BitXor=>cases e; exact os_xor
 | _=>cases e
noncomputable def opCmp:CmpOp→Option (D→D→M D)
 | .Eq=>some oEq
 | .NotEq=>some oNe
 | .Lt=>some oLt
 | .LtE=>some (oCmp fun i j=>decide (i≤j))
 | .Gt=>some (oCmp fun i j=>decide (j<i))
 | .GtE=>some (oCmp fun i j=>decide (j≤i))
 | .Is=>some oIs
 | .IsNot=>some oIsNot
 | .In=>some (oIn false)
 | .NotIn=>some (oIn true)
theorem s_cmp (h:Room k X.A) {op:CmpOp}{o:D→D→M D} (e:opCmp op=some o):OpS X.K (rAny X (compareOp op)) o:=by
 have h1:=h.units
 have h2:=h.units0
 have h3:X.A.units+1<cLine:=hu_of h
 cases op with
 | Eq=>cases e; exact os_eq h1
 | NotEq=>cases e; exact os_ne h1
 | Lt=>cases e; exact os_lt h2
 | LtE=>cases e; exact os_le
 | Gt=>cases e; exact os_gt
 | GtE=>cases e; exact os_ge
 | Is=>cases e; exact os_is
 | IsNot=>cases e; exact os_isNot
 | In=>cases e; exact os_in h1
 | NotIn=>cases e; exact os_notIn h1
noncomputable def notStar:Expr→Bool
 | .Starred _ _=>false
 | _=>true
theorem star_cons {a:Expr}{es:List Expr}{env:Env} (h:notStar a=true):starEach (a::es) env=(false,eval a env)::starEach es env:=by
 cases a <;> first | rfl | cases h
noncomputable def cArgs? (f:Expr→Option C):List Expr→Option (List C)
 | []=>some []
 | e::es=>if notStar e then (f e).bind fun c=>(cArgs? f es).map (c::·) else none
def Keeps (X:Cx) (f:Expr→Option C):Prop:=∀ e c,f e=some c→PE X e (tOf X.K c)
variable {f:Expr→Option C}
theorem s_args (hf:Keeps X f):∀ {es:List Expr}{cs:List C},cArgs? f es=some cs→PA X es (tOfA X.K (cArgs cs))∧(∀ e∈es,notStar e=true)
 | [],cs,e=>by cases e; exact ⟨sa_nil,by simp⟩
 | a::es,cs,e=>by
  unfold cArgs? at e
  split at e
  ·rename_i hs
   obtain ⟨c,e1,e⟩:=Option.bind_eq_some_iff.mp e
   obtain ⟨cs',e2,e⟩:=Option.map_eq_some_iff.mp e
   subst e
   obtain ⟨h1,h2⟩:=s_args hf e2
   exact ⟨sa_cons (hf a c e1) h1 (star_cons hs),fun e he=>by
    rcases List.mem_cons.mp he with rfl | he
    ·exact hs
    ·exact h2 e he⟩
  ·cases e
theorem noStar_any {es:List Expr}{env:Env}{pos:Pos} (h:∀ e∈es,notStar e=true):(backTo pos (starEach es env)).any (·.1)=false:=by
 induction es with
 | nil=>rfl
 | cons a es ih =>
  rw [star_cons (h a (by simp))]
  show (false||(backTo pos (starEach es env)).any (·.1))=false
  rw [ih fun e he=>h e (by simp [he])]; rfl
noncomputable def isSlice:Expr→Bool
 | .Slice _ _ _ _=>true
 | _=>false
theorem plainIx {b:Expr} (h:isSlice b=false):PlainIx b:=by
 cases b <;> first | (intro o i; rfl) | cases h
noncomputable def cPart? (f:Expr→Option C):Option Expr→Option CO
 | none=>some cNoPart
 | some e=>(f e).map cPart
theorem s_part (hf:Keeps X f) {e:Option Expr}{c:CO} (h:cPart? f e=some c):PO X e (tOfO X.K c):=by
 cases e with
 | none=>cases h; exact so_none
 | some a =>
  obtain ⟨ca,e1,e2⟩:=Option.map_eq_some_iff.mp h
  subst e2
  exact so_some (hf a ca e1)
noncomputable def cSub (f:Expr→Option C) (a b:Expr):Option C:=match b with
 | .Slice lo hi none _=>(f a).bind fun ca=>(cPart? f lo).bind fun cl=>(cPart? f hi).map fun ch=>cSl oSl ca cl ch
 | _=>if isSlice b then none else (f a).bind fun ca=>(f b).map fun cb=>cBin oIx ca cb
theorem s_sub (h:Room k X.A) (hf:Keeps X f) {a b:Expr}{pos:Pos}{c:C} (e:cSub f a b=some c):PE X (.Subscript a b pos) (tOf X.K c):=by
 unfold cSub at e
 split at e
 ·obtain ⟨ca,e1,e⟩:=Option.bind_eq_some_iff.mp e
  obtain ⟨cl,e2,e⟩:=Option.bind_eq_some_iff.mp e
  obtain ⟨ch,e3,e⟩:=Option.map_eq_some_iff.mp e
  subst e
  exact se_slice ss_sl (hf a ca e1) (s_part hf e2) (s_part hf e3)
 ·split at e
  ·cases e
  ·rename_i hs
   obtain ⟨ca,e1,e⟩:=Option.bind_eq_some_iff.mp e
   obtain ⟨cb,e2,e⟩:=Option.map_eq_some_iff.mp e
   subst e
   exact se_ix (os_ix (hu_of h)) (hf a ca e1) (hf b cb e2) (plainIx (by simpa using hs))
noncomputable def cCompare (f:Expr→Option C) (a:Expr) (ops:List CmpOp) (bs:List Expr):Option C:=match ops,bs with
 | [op],[b]=>if behindInMarks op b then none else (opCmp op).bind fun o=>(f a).bind fun ca=>(f b).map fun cb=>cBin o ca cb
 | [op,op'],[b,c]=>if lastMarks [op,op'] [b,c] then none else (opCmp op).bind fun o=>(opCmp op').bind fun o'=>(f a).bind fun ca=>(f b).bind fun cb=>(f c).map fun cc=>cChain o o' ca cb cc
 | _,_=>none
theorem s_compare (h:Room k X.A) (hf:Keeps X f) {a:Expr}{ops:List CmpOp}{bs:List Expr}{pos:Pos}{c:C} (e:cCompare f a ops bs=some c):PE X (.Compare a ops bs pos) (tOf X.K c):=by
 unfold cCompare at e
 split at e
 ·rename_i op b
  split at e
  ·cases e
  ·rename_i hm
   obtain ⟨o,e0,e⟩:=Option.bind_eq_some_iff.mp e
   obtain ⟨ca,e1,e⟩:=Option.bind_eq_some_iff.mp e
   obtain ⟨cb,e2,e⟩:=Option.map_eq_some_iff.mp e
   subst e
   exact se_cmp (s_cmp h e0) (hf a ca e1) (hf b cb e2) (by simpa using hm)
 ·rename_i op op' b c
  split at e
  ·cases e
  ·rename_i hm
   obtain ⟨o,e0,e⟩:=Option.bind_eq_some_iff.mp e
   obtain ⟨o',e0',e⟩:=Option.bind_eq_some_iff.mp e
   obtain ⟨ca,e1,e⟩:=Option.bind_eq_some_iff.mp e
   obtain ⟨cb,e2,e⟩:=Option.bind_eq_some_iff.mp e
   obtain ⟨cc,e3,e⟩:=Option.map_eq_some_iff.mp e
   subst e
   exact se_chain (s_cmp h e0) (s_cmp h e0') (hf a ca e1) (hf b cb e2) (hf c cc e3) (by simpa using hm)
 ·cases e
noncomputable def tCompare (f:Expr→Option C) (a:Expr) (ops:List CmpOp) (bs:List Expr):Option CT:=match ops,bs with
 | [op,op',op2],[b,c,d]=>if lastMarks [op,op',op2] [b,c,d] then none else (opCmp op).bind fun o=>(opCmp op').bind fun o'=>(opCmp op2).bind fun o2=>(f a).bind fun ca=>(f b).bind fun cb=>(f c).bind fun cc=>(f d).map fun cd=>cChain3 o o' o2 ca cb cc cd
 | ops,bs=>(cCompare f a ops bs).map cBool
theorem s_tcompare (h:Room k X.A) (hf:Keeps X f) {a:Expr}{ops:List CmpOp}{bs:List Expr}{pos:Pos}{c:CT} (e:tCompare f a ops bs=some c):PT X (.Compare a ops bs pos) (tOfT X.K c):=by
 unfold tCompare at e
 split at e
 ·rename_i op op' op2 b c d
  split at e
  ·cases e
  ·rename_i hm
   obtain ⟨o,e0,e⟩:=Option.bind_eq_some_iff.mp e
   obtain ⟨o',e0',e⟩:=Option.bind_eq_some_iff.mp e
   obtain ⟨o2,e02,e⟩:=Option.bind_eq_some_iff.mp e
   obtain ⟨ca,e1,e⟩:=Option.bind_eq_some_iff.mp e
   obtain ⟨cb,e2,e⟩:=Option.bind_eq_some_iff.mp e
   obtain ⟨cc,e3,e⟩:=Option.bind_eq_some_iff.mp e
   obtain ⟨cd,e4,e⟩:=Option.map_eq_some_iff.mp e
   subst e
   exact st_chain3 (s_cmp h e0) (s_cmp h e0') (s_cmp h e02) (hf a ca e1) (hf b cb e2) (hf c cc e3) (hf d cd e4) (by simpa using hm)
 ·obtain ⟨cc,e1,e⟩:=Option.map_eq_some_iff.mp e
  subst e
  unfold cCompare at e1
  split at e1
  ·split at e1
   ·cases e1
   ·rename_i hm
    obtain ⟨o,e0,e⟩:=Option.bind_eq_some_iff.mp e1
    obtain ⟨ca,g1,e⟩:=Option.bind_eq_some_iff.mp e
    obtain ⟨cb,e2,e⟩:=Option.map_eq_some_iff.mp e
    subst e
    exact st_cmp (s_cmp h e0) (hf _ ca g1) (hf _ cb e2) (by simpa using hm)
  ·split at e1
   ·cases e1
   ·rename_i hm
    obtain ⟨o,e0,e⟩:=Option.bind_eq_some_iff.mp e1
    obtain ⟨o',e0',e⟩:=Option.bind_eq_some_iff.mp e
    obtain ⟨ca,g1,e⟩:=Option.bind_eq_some_iff.mp e
    obtain ⟨cb,e2,e⟩:=Option.bind_eq_some_iff.mp e
    obtain ⟨cc,e3,e⟩:=Option.map_eq_some_iff.mp e
    subst e
    exact st_chain (s_cmp h e0) (s_cmp h e0') (hf _ ca g1) (hf _ cb e2) (hf _ cc e3) (by simpa using hm)
  ·cases e1
noncomputable def plainRecv:Expr→Bool
 | .Name _ _=>true
 | .Subscript _ _ _=>true
 | .Call _ (_::_) _ _=>true
 | .Constant (.str _) _ _=>true
 | _=>false
theorem base_ok {o:Expr}{name:Str}{env:Env} (h:plainRecv o=true):attributeBase o name env (eval o env)=eval o env:=by
 cases o with
 | Call f args kw pos =>
  cases args with
  | nil=>cases h
  | cons a r=>cases f <;> rfl
 | Constant v j pos=>cases v <;> first | rfl | cases h
 | _=>first | rfl | cases h
noncomputable def txBlt (x:Str):Option (List D→M D):=if x=("str":Str) then some fStr else none
noncomputable def bltOf (x:Str):Option (List D→M D) :=
 if x=("len":Str) then some fLen else
 if x=("isinstance":Str) then some fInst else
 if x=("tuple":Str) then some fTuple else
 if x=("list":Str) then some fList else
 if x=("min":Str) then some fMin else
 if x=("max":Str) then some fMax else
 if x=("all":Str) then some (fBools fun bs=>bs.all id) else
 if x=("any":Str) then some (fBools fun bs=>bs.any id) else
 if x=("int":Str) then some fInt else
 txBlt x
noncomputable def rangeArgs:Expr→Option (List Expr)
 | .Call (.Name x _) as [] _=>if x=("range":Str) then some as else none
 | _=>none
noncomputable def fListR:List D→M D:=fun xs S=>match xs with
 | [.int j]=>if -4611686018427387904≤j∧j<4611686018427387904∧j≤1000 then .ok (.lst S.length) (S++[.lst (upD 0 j.toNat)]) else .bad
 | [.int i,.int j]=>if -4611686018427387904≤i∧i<4611686018427387904∧-4611686018427387904≤j∧j<4611686018427387904∧j - i≤1000 then .ok (.lst S.length) (S++[.lst (upD i (j - i).toNat)]) else .bad
 | _=>.bad
noncomputable def cCallN (sc:Sc) (ar:Str→Option Nat) (cl:Str→List D→M D) (f:Expr→Option C) (x:Str) (es:List Expr):Option C :=
 if sc.names.lookup x=some .globalImplicit then
  match ar x with
  | some n=>if es.length=n∧es≠[]∧(x == ("__debug__":Str))=false then (cArgs? f es).map fun cs=>cApp (cl x) (cArgs cs) else none
  | none=>match es with
   | [e] =>
    match rangeArgs e with
    | some as=>if x=("list":Str)∧ar "range"=none∧sc.names.lookup ("range":Str)=some .globalImplicit∧(as.length=1∨as.length=2) then (cArgs? f as).map fun cs=>cApp fListR (cArgs cs) else none
    | none=>(bltOf x).bind fun o=>(cArgs? f es).map fun cs=>cApp o (cArgs cs)
   | _::_=>(bltOf x).bind fun o=>(cArgs? f es).map fun cs=>cApp o (cArgs cs)
   | []=>none
 else none
theorem vals_upD {K:W.Frag}{H:Hp}{μ:List Addr} (lo:Int) (n:Nat):RVs K H μ (upD lo n) (upV lo n):=by
 unfold upD upV
 generalize List.range n=l
 induction l with
 | nil=>exact .nil
 | cons a r ih=>exact .cons rv_int ih
set_option maxHeartbeats 2000000 in
theorem s_blt (h:XOk X sc ar cl k) {x:Str} (hx:sc.names.lookup x=some .globalImplicit) (hn:ar x=none) {o:List D→M D} (eo:bltOf x=some o) {e:Expr}{es:List Expr}{cs:List C} (ha:PA X (e::es) (tOfA X.K (cArgs cs))) (hs:∀ a∈e::es,notStar a=true) {p pos:Pos}:PE X (.Call (.Name x p) (e::es) [] pos) (tOf X.K (cApp o (cArgs cs))):=by
 have g:=h.gl x hx
 have s1:=star_cons (es:=es) (env:=X.env) (hs e (by simp))
 have s2:(backTo pos (starEach es X.env)).any (·.1)=false:=noStar_any fun a ha=>hs a (by simp [ha])
 unfold bltOf at eo
 have B:∀ (id:String) (hb:bootBuiltins x=some (.builtin id)) (hm:X.mg x=none) (hne:x ≠ "__name__") (hd:(x == ("__debug__":Str))=false) (o:List D→M D),CallS X.K (cAny X (.builtin id)) o→PE X (.Call (.Name x p) (e::es) [] pos) (tOf X.K (cApp o (cArgs cs))):=fun id hb hm hne hd o ho =>
  (pe_callB callAny g hm hb ha hne hd s1 s2).weak (of_app ho)
 have T:∀ (id:String) (hb:bootBuiltins x=some (.type id)) (hm:X.mg x=none) (hne:x ≠ "__name__") (hd:(x == ("__debug__":Str))=false) (o:List D→M D),CallS X.K (cAny X (.type id)) o→PE X (.Call (.Name x p) (e::es) [] pos) (tOf X.K (cApp o (cArgs cs))):=fun id hb hm hne hd o ho =>
  (pe_callTy callAny g hm hb ha hne hd s1 s2).weak (of_app ho)
 split at eo
 ·rename_i q; subst q; cases eo; exact B "len" bt_len (h.blt.b _ (by decide +kernel) hn) (by decide +kernel) (by decide +kernel) _ cs_len
 split at eo
 ·rename_i q; subst q; cases eo; exact B "isinstance" bt_isinstance (h.blt.b _ (by decide +kernel) hn) (by decide +kernel) (by decide +kernel) _ cs_inst
 split at eo
 ·rename_i q; subst q; cases eo; exact T "tuple" bt_tuple (h.blt.b _ (by decide +kernel) hn) (by decide +kernel) (by decide +kernel) _ cs_tuple
 split at eo
 ·rename_i q; subst q; cases eo; exact T "list" bt_list (h.blt.b _ (by decide +kernel) hn) (by decide +kernel) (by decide +kernel) _ cs_list
 split at eo
 ·rename_i q; subst q; cases eo; exact B "min" bt_min (h.blt.b _ (by decide +kernel) hn) (by decide +kernel) (by decide +kernel) _ (cs_min h.calm)
 split at eo
 ·rename_i q; subst q; cases eo; exact B "max" bt_max (h.blt.b _ (by decide +kernel) hn) (by decide +kernel) (by decide +kernel) _ (cs_max h.calm)
 split at eo
 ·rename_i q; subst q; cases eo; exact B "all" bt_all (h.blt.b _ (by decide +kernel) hn) (by decide +kernel) (by decide +kernel) _ (cs_all h.calm)
 split at eo
 ·rename_i q; subst q; cases eo; exact B "any" bt_any (h.blt.b _ (by decide +kernel) hn) (by decide +kernel) (by decide +kernel) _ (cs_any h.calm)
 split at eo
 ·rename_i q; subst q; cases eo; exact T "int" bt_int (h.blt.b _ (by decide +kernel) hn) (by decide +kernel) (by decide +kernel) _ cs_int
 unfold txBlt at eo
 split at eo
 ·rename_i q; subst q; cases eo; exact T "str" bt_str (h.blt.b _ (by decide +kernel) hn) (by decide +kernel) (by decide +kernel) _ cs_str
 ·cases eo
theorem s_listR (h:XOk X sc ar cl k) (hx:sc.names.lookup ("list":Str)=some .globalImplicit) (hn:ar "list"=none) (hr:sc.names.lookup ("range":Str)=some .globalImplicit) (hnr:ar "range"=none) {as:List Expr}{cs:List C} (ha:PA X as (tOfA X.K (cArgs cs))) (hs:∀ a∈as,notStar a=true) (hl:as.length=1∨as.length=2) {p pos p2 pos2:Pos} :
  PE X (.Call (.Name "list" p) [.Call (.Name "range" p2) as [] pos2] [] pos) (tOf X.K (cApp fListR (cArgs cs))):=by
 have g1:=h.gl _ hx
 have g2:=h.gl _ hr
 have R:PE X (.Call (.Name "range" p2) as [] pos2) (tCB (cAny X (.type "range")) (tOfA X.K (cArgs cs))):=by
  cases as with
  | nil=>simp at hl
  | cons e es=>exact pe_callTy callAny g2 (h.blt.b _ (by decide +kernel) hnr) bt_range ha (by decide +kernel) (by decide +kernel) (star_cons (hs e (by simp))) (noStar_any fun a ha=>hs a (by simp [ha]))
 have L:=pe_callTy (p:=p) (pos:=pos) (callAny (X:=X) (f:=.type "list")) g1 (h.blt.b _ (by decide +kernel) hn) bt_list (pa_cons R pa_nil rfl) (by decide +kernel) (by decide +kernel) rfl rfl
 refine L.weak ?_
 rintro σ H Q ⟨μ,ρ,S,d,S',sr,re,e,y⟩
 obtain ⟨xs,S1,e1,e⟩:=bnd_ok e
 refine ⟨μ,ρ,S,xs,S1,sr,re,e1,fun vs H1 μ1 sr1 st1 r1=>?_⟩
 have y1:=y.shift st1
 have fin:∀ (i j:Int),-4611686018427387904≤i→i<4611686018427387904→-4611686018427387904≤j→j<4611686018427387904→j - i≤1000→Yld X.K μ1 H1 (.lst S1.length) (S1++[.lst (upD i (j - i).toNat)]) Q→∀ q,H1 q=none→cAny X (.type "list") [.ref q] (upd H1 q (.rng i j)) Q:=by
  intro i j b1 b2 b3 b4 b5 y1 q hq
  obtain ⟨sr2,st2⟩:=sr1.other (o:=.rng i j) hq
  exact ⟨_,call_list_rng h.calm,q,i,j,rfl,upd_same,b1,b2,b3,b4,by omega,fun l hl=>(y1.shift st2).newL sr2 hl (vals_upD _ _)⟩
 unfold fListR at e
 split at e
 ·rename_i j
  split at e
  ·rename_i hb
   cases e
   obtain ⟨v,rfl,r⟩:=r1.one
   unfold RV at r; subst r
   refine ⟨_,call_range1,j,rfl,fun q hq=>?_⟩
   have:=fin 0 j (by decide) (by decide) hb.1 hb.2.1 (by omega) (by rw [Int.sub_zero]; exact y1) q hq
   exact this
  ·cases e
 ·rename_i i j
  split at e
  ·rename_i hb
   cases e
   obtain ⟨v,u,rfl,r,r'⟩:=r1.two
   unfold RV at r r'; subst r r'
   exact ⟨_,call_range2,i,j,rfl,fun q hq=>fin i j hb.1 hb.2.1 hb.2.2.1 hb.2.2.2.1 hb.2.2.2.2 y1 q hq⟩
  ·cases e
 ·cases e
theorem s_callN (h:XOk X sc ar cl k) (hf:Keeps X f) {x:Str}{es:List Expr}{c:C}{p pos:Pos} (e:cCallN sc ar cl f x es=some c):PE X (.Call (.Name x p) es [] pos) (tOf X.K c):=by
 unfold cCallN at e
 split at e
 ·rename_i hx
  split at e
  ·rename_i n hn
   split at e
   ·rename_i hc
    obtain ⟨hl,hne,hd⟩:=hc
    obtain ⟨cs,e1,e⟩:=Option.map_eq_some_iff.mp e
    subst e
    obtain ⟨h1,h2⟩:=s_args hf e1
    obtain ⟨⟨ps,Ca⟩,hlen⟩:=h.fns x n hn
    cases es with
    | nil=>exact absurd rfl hne
    | cons a es =>
     exact (pe_callX (p:=p) (pos:=pos) Ca h.room (h.gl x hx) pass1 h1 (Nat.le_refl _) hd (star_cons (h2 a (by simp))) (noStar_any fun b hb=>h2 b (by simp [hb]))).weak (of_callX hlen)
   ·cases e
  ·rename_i hn
   split at e
   ·rename_i a
    split at e
    ·rename_i as ha
     split at e
     ·rename_i hc
      obtain ⟨rfl,hnr,hr,hl⟩:=hc
      obtain ⟨cs,e1,e⟩:=Option.map_eq_some_iff.mp e
      subst e
      obtain ⟨h1,h2⟩:=s_args hf e1
      unfold rangeArgs at ha
      split at ha
      ·rename_i x' p' as' pos'
       split at ha
       ·rename_i q; subst q; cases ha
        exact s_listR h hx hn hr hnr h1 h2 hl
       ·cases ha
      ·cases ha
     ·cases e
    ·obtain ⟨o,e0,e⟩:=Option.bind_eq_some_iff.mp e
     obtain ⟨cs,e1,e⟩:=Option.map_eq_some_iff.mp e
     subst e
     obtain ⟨h1,h2⟩:=s_args hf e1
     exact s_blt h hx hn e0 h1 h2
   ·obtain ⟨o,e0,e⟩:=Option.bind_eq_some_iff.mp e
    obtain ⟨cs,e1,e⟩:=Option.map_eq_some_iff.mp e
    subst e
    obtain ⟨h1,h2⟩:=s_args hf e1
    exact s_blt h hx hn e0 h1 h2
   ·cases e
 ·cases e
end
open PySem PySem.Spec PyProof.Rows
section
variable {X:Cx}{sc:Sc}{ar:Str→Option Nat}{cl:Str→List D→M D}{k:Nat}{f:Expr→Option C}
noncomputable def meth0 (m:Str) (co:C):Option C :=
 none
noncomputable def meth1 (m:Str) (co ca:C):Option C :=
 if m=("append":Str) then some (cMeth "list" (mList gAppend) co (cArgs [ca])) else
 if m=("pop":Str) then some (cMeth "list" (mList gPopAt) co (cArgs [ca])) else
 if m=("join":Str) then some (cMeth "str" mJoin co (cArgs [ca])) else
 if m=("find":Str) then some (cMeth "str" mFind co (cArgs [ca])) else
 if m=("split":Str) then some (cMeth "str" mSplit co (cArgs [ca])) else
 none
noncomputable def meth2 (m:Str) (co ca cb:C):Option C :=
 if m=("insert":Str) then some (cMeth "list" (mList gInsert) co (cArgs [ca,cb])) else
 none
noncomputable def cMethod (f:Expr→Option C) (o:Expr) (m:Str) (es:List Expr) (apos cpos:Pos):Option C :=
 if plainRecv o&&(apos.endLine == cpos.line) then (f o).bind fun co=>match es with
  | []=>meth0 m co
  | [a]=>if notStar a then (f a).bind fun ca=>meth1 m co ca else none
  | [a,b]=>if notStar a&&notStar b then (f a).bind fun ca=>(f b).bind fun cb=>meth2 m co ca cb else none
  | _=>none
 else none
theorem s_method (hr0:Room k X.A) (hf:Keeps X f) {o:Expr}{m:Str}{es:List Expr}{apos cpos:Pos}{c:C} (e:cMethod f o m es apos cpos=some c):PE X (.Call (.Attribute o m apos) es [] cpos) (tOf X.K c):=by
 unfold cMethod at e
 split at e
 ·rename_i hc
  rw [Bool.and_eq_true] at hc
  obtain ⟨hr,hl⟩:=hc
  obtain ⟨co,e0,g⟩:=Option.bind_eq_some_iff.mp e
  clear e
  have hb:∀ name,attributeBase o name X.env (eval o X.env)=eval o X.env:=fun name=>base_ok hr
  split at g
  ·unfold meth0 at g
   cases g
  ·rename_i a
   split at g
   ·rename_i hs
    obtain ⟨ca,e1,g'⟩:=Option.bind_eq_some_iff.mp g
    clear g
    have s1:=star_cons (es:=[]) (env:=X.env) hs
    have hA:PA X [a] (tOfA X.K (cArgs [ca])):=sa_cons (hf a ca e1) sa_nil s1
    have hfew:((backTo cpos (starEach [a] X.env)).all (fun x=>!x.1)&&(backToKw cpos (keywordEach [] X.env)).all (fun x=>x.1.isSome)
     && decide ([a].length+([]:List Keyword).length+(if ([]:List Keyword).isEmpty then 0 else 1)<30))=true:=by rw [s1]; rfl
    unfold meth1 at g'
    split at g'
    ·rename_i q; subst q; cases g'
     exact se_meth PySem.F.plainAttrs_list PySem.F.slot_list_append PySem.F.type_list_append ms_append (hf o co e0) hA (hb _) hfew hl s1 rfl
    split at g'
    ·rename_i q; subst q; cases g'
     exact se_meth PySem.F.plainAttrs_list PySem.F.slot_list_pop PySem.F.type_list_pop ms_popAt (hf o co e0) hA (hb _) hfew hl s1 rfl
    split at g'
    ·rename_i q; subst q; cases g'
     exact se_meth PySem.F.plainAttrs_str PySem.F.slot_str_join PySem.F.type_str_join ms_join (hf o co e0) hA (hb _) hfew hl s1 rfl
    split at g'
    ·rename_i q; subst q; cases g'
     exact se_meth PySem.F.plainAttrs_str PySem.F.slot_str_find PySem.F.type_str_find ms_find (hf o co e0) hA (hb _) hfew hl s1 rfl
    split at g'
    ·rename_i q; subst q; cases g'
     exact se_meth PySem.F.plainAttrs_str PySem.F.slot_str_split PySem.F.type_str_split ms_split (hf o co e0) hA (hb _) hfew hl s1 rfl
    cases g'
   ·cases g
  ·rename_i a b
   split at g
   ·rename_i hs
    rw [Bool.and_eq_true] at hs
    obtain ⟨ca,e1,g1⟩:=Option.bind_eq_some_iff.mp g
    obtain ⟨cb,e2,g'⟩:=Option.bind_eq_some_iff.mp g1
    clear g g1
    have s2:=star_cons (es:=[]) (env:=X.env) hs.2
    have s1:=star_cons (es:=[b]) (env:=X.env) hs.1
    have hA:PA X [a,b] (tOfA X.K (cArgs [ca,cb])):=sa_cons (hf a ca e1) (sa_cons (hf b cb e2) sa_nil s2) s1
    have hfew:((backTo cpos (starEach [a,b] X.env)).all (fun x=>!x.1)&&(backToKw cpos (keywordEach [] X.env)).all (fun x=>x.1.isSome)
     && decide ([a,b].length+([]:List Keyword).length+(if ([]:List Keyword).isEmpty then 0 else 1)<30))=true:=by rw [s1,s2]; rfl
    unfold meth2 at g'
    split at g'
    ·rename_i q; subst q; cases g'
     exact se_meth PySem.F.plainAttrs_list PySem.F.slot_list_insert PySem.F.type_list_insert ms_insert (hf o co e0) hA (hb _) hfew hl s1 (by rw [s2]; rfl)
    cases g'
   ·cases g
  ·cases g
 ·cases e
noncomputable def cJoined (f:Expr→Option C):List Expr→Option C
 | e1::e2::es=>(cArgs? f (e1::e2::es)).map fun cs=>cJS cs Str.empty
 | _=>none
theorem s_each (hf:Keeps X f):∀ {es:List Expr}{cs:List C},cArgs? f es=some cs→PEs X es (cs.map (tOf X.K))
 | [],cs,e=>by cases e; exact .nil
 | a::es,cs,e=>by
  unfold cArgs? at e
  split at e
  ·obtain ⟨c,e1,e⟩:=Option.bind_eq_some_iff.mp e
   obtain ⟨cs',e2,rfl⟩:=Option.map_eq_some_iff.mp e
   exact .cons (hf a c e1) (s_each hf e2)
  ·cases e
theorem s_joined (hf:Keeps X f) {es:List Expr}{pos:Pos}{c:C} (e:cJoined f es=some c):PE X (.JoinedStr es pos) (tOf X.K c):=by
 unfold cJoined at e
 split at e
 ·obtain ⟨cs,e1,rfl⟩:=Option.map_eq_some_iff.mp e
  exact (pe_joined (s_each hf e1)).weak (of_js _ _)
 ·cases e
noncomputable def cDNew:C:=fun _ S=>.ok (.dct S.length) (S++[.dk []])
theorem se_dnew {pos:Pos}:PE X (.Dict [] [] pos) (tOf X.K cDNew):=pe_dnewK.weak (by
 rintro σ H Q ⟨μ,ρ,S,d,S',sr,re,e,y⟩
 unfold cDNew at e
 cases e
 intro p hp
 obtain ⟨s1,s2⟩:=sr.push (o:=.dK []) (o':=.dk []) hp ⟨[],upd_same,RKs.nil⟩
 exact y _ _ _ s1 s2 (by unfold RV; exact ⟨p,rfl,by rw [← sr.len,List.getElem?_append_right (Nat.le_refl _),Nat.sub_self]; rfl⟩))
noncomputable def cDOne (a b:C):C:=fun ρ=>bnd (a ρ) fun x=>bnd (b ρ) fun y S=>match keyOf x with
 | some k=>.ok (.dct S.length) (S++[.dk [(k,y)]])
 | none=>.bad
theorem se_done {a b:Expr}{ca cb:C}{pos:Pos} (ha:PE X a (tOf X.K ca)) (hb:PE X b (tOf X.K cb)):PE X (.Dict [some a] [b] pos) (tOf X.K (cDOne ca cb)):=(pe_disp (pps_cons ha hb pps_nil) rfl rfl (by simp) (by simp)).weak (by
 rintro σ H Q ⟨μ,ρ,S,d,S',sr,re,e,y⟩
 obtain ⟨x,S1,e1,f1⟩:=bnd_ok e
 obtain ⟨z,S2,e2,f2⟩:=bnd_ok f1
 split at f2
 ·rename_i key hk
  cases f2
  intro p hp
  obtain ⟨s1,s2⟩:=sr.other (o:=.dK []) hp
  refine ⟨μ,ρ,S,x,S1,s1,re.up s2,e1,fun v H1 μ1 sr1 st1 r1=>⟨μ1,ρ,S1,z,S2,sr1,(re.up s2).up st1,e2,fun u H2 μ2 sr2 st2 r2=>?_⟩⟩
  have n0:p∉μ:=sr.out hp
  have q0:upd H p (.dK []) p=some (.dK []):=upd_same
  have q1:=st1.fr p _ n0 q0
  have n1:=st1.notIn n0 q0
  have q2:=st2.fr p _ n1 q1
  have n2:=st2.notIn n1 q1
  have ev:=keyOf_v hk r1
  subst ev
  refine ⟨q2,[(key,u)],rfl,by simp,?_⟩
  have e3:mergeK [] [(key,u)]=[(key,u)]:=by simp [mergeK,putK]
  rw [e3]
  have tk:TF X.K H2 (upd H2 p (.dK [(key,u)])):=tf_upd q2 (fun _ z=>by cases z) (fun _ _ z=>by cases z)
  have st12:=st1.trans st2 sr2.nd
  have st02:Step X.K μ μ2 H H2:=s2.trans st12 sr2.nd
  have sr3:SR X.K (μ2++[p]) (S2++[.dk [(key,z)]]) (upd H2 p (.dK [(key,u)])):=by
   refine ⟨by simp [sr2.len],?_,fun n a w g1 g2=>?_⟩
   ·rw [List.nodup_append]
    refine ⟨sr2.nd,by simp,fun a ha b hb=>?_⟩
    simp at hb; subst hb
    exact fun z=>n2 (z▸ha)
   ·by_cases hn:n<μ2.length
    ·rw [List.getElem?_append_left hn] at g1
     rw [List.getElem?_append_left (by rw [← sr2.len]; exact hn)] at g2
     exact (sr2.obj n a w g1 g2).up tk ⟨[p],rfl⟩ (upd_ne fun z=>n2 (z▸List.mem_of_getElem? g1))
    ·rw [List.getElem?_append_right (by omega)] at g1
     rw [List.getElem?_append_right (by rw [← sr2.len]; omega)] at g2
     have h1:n - μ2.length=0:=by
      have:=(List.getElem?_eq_some_iff.mp g1).1
      simp at this; omega
     rw [h1] at g1
     rw [← sr2.len,h1] at g2
     simp at g1 g2
     subst g1 g2
     exact ⟨[(key,u)],upd_same,RKs.cons (RV.up tk ⟨[p],rfl⟩ _ _ r2) .nil⟩
  have st3:Step X.K μ (μ2++[p]) H (upd H2 p (.dK [(key,u)])):=by
   obtain ⟨ν,e4,n⟩:=st02.pre
   refine ⟨⟨ν++[p],by rw [e4,List.append_assoc],fun b hb=>?_⟩,fun b o hb q=>by rw [upd_ne (ne_of_none q hp)]; exact st02.fr b o hb q,st02.tk.trans tk⟩
   rcases List.mem_append.mp hb with h | h
   ·exact n b h
   ·simp at h; subst h; exact hp
  exact y _ _ _ sr3 st3 (by unfold RV; exact ⟨p,rfl,by rw [← sr2.len,List.getElem?_append_right (Nat.le_refl _),Nat.sub_self]; rfl⟩)
 ·cases f2)
noncomputable def cDict (f:Expr→Option C) (ks:List (Option Expr)) (vs:List Expr):Option C:=match ks,vs with
 | [],[]=>some cDNew
 | [some a],[b]=>(f a).bind fun ca=>(f b).map fun cb=>cDOne ca cb
 | _,_=>none
theorem s_dict (hf:Keeps X f) {ks:List (Option Expr)}{vs:List Expr}{pos:Pos}{c:C} (e:cDict f ks vs=some c):PE X (.Dict ks vs pos) (tOf X.K c):=by
 unfold cDict at e
 split at e
 ·cases e; exact se_dnew
 ·obtain ⟨ca,e1,e⟩:=Option.bind_eq_some_iff.mp e
  obtain ⟨cb,e2,e⟩:=Option.map_eq_some_iff.mp e
  subst e
  exact se_done (hf _ _ e1) (hf _ _ e2)
 ·cases e
noncomputable def cBoolV (op:BoolOp) (f:Expr→Option C):List Expr→Option C
 | []=>none
 | [a]=>f a
 | a::b::r=>(f a).bind fun ca=>(cBoolV op f (b::r)).map fun cb=>match op with
  | .And=>cAndV ca cb
  | .Or=>cOrV ca cb
theorem s_boolV (hf:Keeps X f) {op:BoolOp}{pos:Pos}:∀ {vs:List Expr}{c:C},cBoolV op f vs=some c→PE X (.BoolOp op vs pos) (tOf X.K c)
 | [],c,e=>by cases e
 | [a],c,e=>pe_one (hf a c e)
 | a::b::r,c,e=>by
  unfold cBoolV at e
  obtain ⟨ca,e1,e⟩:=Option.bind_eq_some_iff.mp e
  obtain ⟨cb,e2,e⟩:=Option.map_eq_some_iff.mp e
  subst e
  cases op with
  | And=>exact se_and (hf a ca e1) (s_boolV hf e2)
  | Or=>exact se_or (hf a ca e1) (s_boolV hf e2)
def KeepsT (X:Cx) (t:Expr→Option CT):Prop:=∀ e c,t e=some c→PT X e (tOfT X.K c)
variable {t:Expr→Option CT}
noncomputable def cBoolT (op:BoolOp) (t:Expr→Option CT):List Expr→Option CT
 | []=>none
 | [a]=>t a
 | a::b::r=>(t a).bind fun ca=>(cBoolT op t (b::r)).map fun cb=>match op with
  | .And=>cAndT ca cb
  | .Or=>cOrT ca cb
theorem s_boolT (ht:KeepsT X t) {op:BoolOp}{pos:Pos}:∀ {vs:List Expr}{c:CT},cBoolT op t vs=some c→PW X (.BoolOp op vs pos) (tOfT X.K c)
 | [],c,e=>by cases e
 | [a],c,e=>by
  cases op with
  | And=>exact pw_and1 (ht a c e)
  | Or=>exact pw_or1 (ht a c e)
 | a::b::r,c,e=>by
  unfold cBoolT at e
  obtain ⟨ca,e1,e⟩:=Option.bind_eq_some_iff.mp e
  obtain ⟨cb,e2,e⟩:=Option.map_eq_some_iff.mp e
  subst e
  cases op with
  | And=>exact sw_and (ht a ca e1) (s_boolT ht e2)
  | Or=>exact sw_or (ht a ca e1) (s_boolT ht e2)
noncomputable def isTuple:Expr→Bool
 | .Tuple _ _ _=>true
 | _=>false
noncomputable def isSet:Expr→Bool
 | .Set _ _ _=>true
 | _=>false
theorem folded_ok {iter:Expr}{env:Env} (h:isSet iter=false):∀ x,foldedSetIterable iter env x=pure x:=by
 cases iter <;> first | (intro x; rfl) | cases h
noncomputable def cRangeI (o:Option (List C)) (es:List Expr):Option CI:=o.bind fun cs=>match es with
 | [_]=>some (iRange1 (cArgs cs))
 | [_,_]=>some (iRange2 (cArgs cs))
 | _=>none
noncomputable def cZipI (t:Bool) (o:Option (List C)) (es:List Expr):Option CI:=if t=true then o.bind fun cs=>match es with
  | [_,_]=>some (iZipL (cArgs cs))
  | _=>none
 else none
noncomputable def cIter (sc:Sc) (ar:Str→Option Nat) (f:Expr→Option C) (tg iter:Expr):Option CI:=if isSet iter then none else match iter with
 | .Call (.Name x _) es [] _=>if sc.names.lookup x=some .globalImplicit∧ar x=none then
   (if x=("range":Str) then cRangeI (cArgs? f es) es else
    if x=("zip":Str) then cZipI (isTuple tg) (cArgs? f es) es else
    (f iter).map iSeq)
  else (f iter).map iSeq
 | _=>(f iter).map iSeq
theorem s_rangeI (hf:Keeps X f) {tg:Expr}{es:List Expr}{c:CI}{p pos:Pos} (g:Gl X "range") (hm:X.mg "range"=none) (e:cRangeI (cArgs? f es) es=some c):PI X tg (.Call (.Name "range" p) es [] pos) (tOfI X.K c):=by
 obtain ⟨cs,e1,e2⟩:=Option.bind_eq_some_iff.mp e
 clear e
 obtain ⟨h1,h2⟩:=s_args hf e1
 match es,h1,h2,e2 with
 | [a],h1,h2,e2 =>
  cases e2
  exact si_range1 (pi_range1 g hm h1 (by rw [star_cons (h2 a (by simp))]; rfl))
 | [a,b],h1,h2,e2 =>
  cases e2
  exact si_range2 (pi_range2 g hm h1 (by rw [star_cons (h2 a (by simp)),star_cons (h2 b (by simp))]; rfl) (by rw [star_cons (h2 b (by simp))]; rfl))
 | [],h1,h2,e2=>cases e2
 | _::_::_::_,h1,h2,e2=>cases e2
theorem is_tup {tg:Expr} (h:isTuple tg=true):∃ es k pos,tg=.Tuple es k pos:=by
 cases tg <;> first | exact ⟨_,_,_,rfl⟩ | cases h
theorem s_zipI (hf:Keeps X f) {tg:Expr}{es:List Expr}{c:CI}{p pos:Pos} (g:Gl X "zip") (hm:X.mg "zip"=none) (e:cZipI (isTuple tg) (cArgs? f es) es=some c):PI X tg (.Call (.Name "zip" p) es [] pos) (tOfI X.K c):=by
 unfold cZipI at e
 by_cases ht:isTuple tg=true
 ·rw [if_pos ht] at e
  obtain ⟨ts,kt,pt,rfl⟩:=is_tup ht
  obtain ⟨cs,e1,e2⟩:=Option.bind_eq_some_iff.mp e
  clear e ht
  obtain ⟨h1,h2⟩:=s_args hf e1
  match es,h1,h2,e2 with
  | [a,b],h1,h2,e2 =>
   cases e2
   exact si_zip (pi_zipX g hm h1 (by rw [star_cons (h2 a (by simp)),star_cons (h2 b (by simp))]; rfl) (by rw [star_cons (h2 b (by simp))]; rfl))
  | _::_::_::_,h1,h2,e2=>cases e2
  | [],h1,h2,e2=>cases e2
  | [_],h1,h2,e2=>cases e2
 ·rw [if_neg ht] at e; cases e
theorem s_iter (h:XOk X sc ar cl k) (hf:Keeps X f) {tg iter:Expr}{c:CI} (e:cIter sc ar f tg iter=some c):PI X tg iter (tOfI X.K c)∧isSet iter=false:=by
 unfold cIter at e
 split at e
 ·cases e
 rename_i hset
 refine ⟨?_,by simpa using hset⟩
 have dflt:∀ {c},(f iter).map iSeq=some c→PI X tg iter (tOfI X.K c):=fun e=>by
  obtain ⟨ca,e1,e⟩:=Option.map_eq_some_iff.mp e
  subst e
  exact si_seq (hf _ _ e1)
 split at e
 ·rename_i x p es pos
  split at e
  ·rename_i hx
   have g:=h.gl x hx.1
   split at e
   ·rename_i q; subst q
    exact s_rangeI hf g (h.blt.b _ (by decide +kernel) hx.2) e
   split at e
   ·rename_i q; subst q
    exact s_zipI hf g (h.blt.b _ (by decide +kernel) hx.2) e
   exact dflt e
  ·exact dflt e
 ·exact dflt e
noncomputable def namesOf:List Expr→Option (List Str)
 | []=>some []
 | .Name x _::r=>(namesOf r).map (x::·)
 | _::_=>none
noncomputable def tgtOf:Expr→Option (Tgt × List Str)
 | .Name x _=>some (.one,[x])
 | .Tuple es _ _=>(namesOf es).map fun xs=>(.many xs.length,xs)
 | _=>none
noncomputable def freesOf (ns:List (Str × NameKind)):List Str:=(ns.filter fun y=>y.2 == .free).map (·.1)
noncomputable def slots (N:List Str):List Str→Option (List Nat)
 | []=>some []
 | x::r=>(slotOf N x 0).bind fun j=>(slots N r).map (j::·)
noncomputable def compSc (xs:List Str) (scope:Scope):Sc:=⟨xs++freesOf scope.names,scope.names,none⟩
noncomputable def compOk (sc:Sc) (xs:List Str) (scope:Scope):Bool :=
 decide (scope.kind=.function)&&scope.names.all (fun y=>y.2 != .cell||scope.names.lookup y.1 == some .cell)&&scope.names.all (fun y=>y.2 != .local||scope.names.lookup y.1 == some .local)
 && decide ((xs++freesOf scope.names).Nodup)&&xs.all (fun x=>scope.names.lookup x == some .local||scope.names.lookup x == some .cell)&&decide (1≤xs.length)
 && (freesOf scope.names).all (fun x=>(sc.names.lookup x == some .cell||sc.names.lookup x == some .free)&&scope.names.lookup x == some .free)
noncomputable def cCompr (sc:Sc) (it:Option CI) (fe:Sc→Expr→Option C) (ft:Sc→Expr→Option CT) (tg elt:Expr) (ifs:List Expr) (scope:Scope):Option C :=
 (tgtOf tg).bind fun p=>if compOk sc p.2 scope then (slots sc.N (freesOf scope.names)).bind fun js=>it.bind fun ci=>(fe (compSc p.2 scope) elt).bind fun ce=>match ifs with
  | []=>some (cComp ci p.2.length js p.1 (fun _=>ret true) ce)
  | [q]=>(ft (compSc p.2 scope) q).map fun ct=>cComp ci p.2.length js p.1 ct ce
  | _=>none
 else none
theorem slots_get {N:List Str}:∀ {xs:List Str}{js:List Nat},slots N xs=some js→js.length=xs.length∧∀ (i j:Nat),js[i]?=some j→∃ x,xs[i]?=some x∧N[j]?=some x
 | [],js,e=>by cases e; exact ⟨rfl,fun i j h=>by simp at h⟩
 | x::r,js,e=>by
  unfold slots at e
  obtain ⟨j0,e1,e⟩:=Option.bind_eq_some_iff.mp e
  obtain ⟨js',e2,e⟩:=Option.map_eq_some_iff.mp e
  subst e
  obtain ⟨h1,h2⟩:=slots_get e2
  refine ⟨by simp [h1],fun i j h=>?_⟩
  cases i with
  | zero=>simp at h; subst h; exact ⟨x,rfl,(slotOf_get e1).2⟩
  | succ i =>
   rw [List.getElem?_cons_succ] at h
   obtain ⟨y,g1,g2⟩:=h2 i j h
   exact ⟨y,by rw [List.getElem?_cons_succ]; exact g1,g2⟩
theorem relabel_glob {env:Env}:∀ {names:List (Str × NameKind)}{x:Str}{k:NameKind},k≠.free→names.lookup x=some k →
  (names.map fun (n,k)=>if (k == NameKind.free&&env.scope.kind == .function&&env.kindOf n == some .cell) then (n,NameKind.cell) else (n,k)).lookup x=some k
 | [],_,_,_,h=>by simp at h
 | (n,k')::r,x,k,nf,h=>by
  have ih:=@relabel_glob env r x k nf
  show List.lookup x ((if (k' == NameKind.free&&env.scope.kind == .function&&env.kindOf n == some .cell)=true then (n,NameKind.cell) else (n,k'))::_)=_
  cases hx:x == n with
  | true =>
   simp only [List.lookup_cons,hx] at h
   cases h
   have e:(k' == NameKind.free)=false:=by simpa using nf
   simp [List.lookup_cons,hx,e]
  | false =>
   simp only [List.lookup_cons,hx] at h
   by_cases hc:(k' == NameKind.free&&env.scope.kind == .function&&env.kindOf n == some .cell)=true
   ·rw [if_pos hc]; simp only [List.lookup_cons,hx]; exact ih h
   ·rw [if_neg hc]; simp only [List.lookup_cons,hx]; exact ih h
theorem look_mem {ns:List (Str × NameKind)}{x:Str}{k:NameKind} (h:ns.lookup x=some k):(x,k)∈ns:=mem_of_look h
theorem XOk.comp (h:XOk X sc ar cl k) {xs:List Str}{scope:Scope} (hc:compOk sc xs scope=true) (cl':List (Str × Addr)) (s:Shared) (H:Hp) (C:Addr) (ex:List Addr):XOk (cxComp X scope (xs++freesOf scope.names) cl' s H C ex) (compSc xs scope) ar cl k:=by
 unfold compOk at hc
 simp only [Bool.and_eq_true,decide_eq_true_eq] at hc
 obtain ⟨⟨⟨⟨⟨⟨c1,c2⟩,c3⟩,c4⟩,c5⟩,c6⟩,c7⟩:=hc
 exact {
  calm:=h.calm
  N:=rfl
  nd:=c4
  gl:=fun x hx=>relabel_glob (by decide) hx
  loc:=fun x hx=>relabel_glob (by decide) hx
  cel:=fun x hx=>relabel_glob (by decide) hx
  fre:=fun x hx=>relabel_free hx
  fnn:=fun z=>by cases z
  room:=h.room
  roomT:=fun z=>by cases z
  lam:=fun z=>by cases z
  tk:=fun z=>by cases z
  rf:=fun z=>by cases z
  xk:=h.xk
  xm:=h.xm
  xv:=h.xv
  own:=PassesOwn.never
  exc:=h.exc
  blt:=h.blt
  fns:=h.fns }
theorem namesOf_get:∀ {es:List Expr}{xs:List Str},namesOf es=some xs→es.length=xs.length∧∀ (i:Nat) (e:Expr),es[i]?=some e→∃ x pos,e=.Name x pos∧xs[i]?=some x
 | [],xs,h=>by cases h; exact ⟨rfl,fun i e h=>by simp at h⟩
 | a::r,xs,h=>by
  cases a with
  | Name x pos =>
   unfold namesOf at h
   obtain ⟨ys,e1,e⟩:=Option.map_eq_some_iff.mp h
   subst e
   obtain ⟨h1,h2⟩:=namesOf_get e1
   refine ⟨by simp [h1],fun i e he=>?_⟩
   cases i with
   | zero=>simp at he; subst he; exact ⟨x,pos,rfl,rfl⟩
   | succ i =>
    rw [List.getElem?_cons_succ] at he
    obtain ⟨y,p,g1,g2⟩:=h2 i e he
    exact ⟨y,p,g1,by rw [List.getElem?_cons_succ]; exact g2⟩
  | _=>cases h
theorem assignEach_name {x:Str}{pos:Pos}{es:List Expr}{env:Env}:assignEach (.Name x pos::es) env=(false,assign (.Name x pos) env)::assignEach es env:=rfl
theorem pgs_names:∀ {es:List Expr}{s:Nat},(∀ (i:Nat) (e:Expr),es[i]?=some e→∃ x pos,e=.Name x pos∧X.N[s+i]?=some x∧Loc X.env.scope x∧(X.fn x=true∨X.env.scope.names.lookup x=some .local))→X.N.Nodup→PGs X es (gNames s es.length)
 | [],s,h,nd=>pgs_nil
 | a::r,s,h,nd=>by
  obtain ⟨x,pos,rfl,g1,g2,g3⟩:=h 0 a rfl
  refine pgs_cons (pg_name nd (by simpa using g1) g2 g3) (pgs_names (s:=s+1) (fun i e he=>?_) nd) rfl
  obtain ⟨y,p,q1,q2,q3⟩:=h (i+1) e (by rw [List.getElem?_cons_succ]; exact he)
  exact ⟨y,p,q1,by rw [show s+1+i=s+(i+1) by omega]; exact q2,q3⟩
theorem assignEach_names {env:Env}:∀ {es:List Expr}{xs:List Str},namesOf es=some xs→(assignEach es env).length=xs.length∧(assignEach es env).findIdx? (·.1)=none
 | [],xs,h=>by cases h; exact ⟨rfl,rfl⟩
 | a::r,xs,h=>by
  cases a with
  | Name x pos =>
   unfold namesOf at h
   obtain ⟨ys,e1,e⟩:=Option.map_eq_some_iff.mp h
   subst e
   obtain ⟨h1,h2⟩:=assignEach_names (env:=env) e1
   rw [assignEach_name]
   exact ⟨by simp [h1],by rw [List.findIdx?_cons]; simp [h2]⟩
  | _=>cases h
theorem tgt_len {tg:Expr}{t:Tgt}{xs:List Str} (e:tgtOf tg=some (t,xs)):tgtK t=xs.length:=by
 cases tg with
 | Name x pos=>cases e; rfl
 | Tuple es n pos =>
  unfold tgtOf at e
  obtain ⟨ys,e1,e⟩:=Option.map_eq_some_iff.mp e
  cases e
  rfl
 | _=>cases e
theorem tgt_kind {X':Cx}{sc':Sc} (h:XOk X' sc' ar cl k) {x:Str} (g:sc'.names.lookup x=some .local∨sc'.names.lookup x=some .cell∧X'.fn x=true):Loc X'.env.scope x∧(X'.fn x=true∨X'.env.scope.names.lookup x=some .local):=by
 rcases g with g | ⟨g,f⟩
 ·exact ⟨.inl (h.loc x g),.inr (h.loc x g)⟩
 ·exact ⟨.inr (h.cel x g),.inl f⟩
theorem s_tgt {X':Cx}{sc':Sc} (h:XOk X' sc' ar cl k) {tg:Expr}{t:Tgt}{xs:List Str} (e:tgtOf tg=some (t,xs)) (hN:∀ (i:Nat) (x:Str),xs[i]?=some x→sc'.N[i]?=some x∧(sc'.names.lookup x=some .local∨sc'.names.lookup x=some .cell∧X'.fn x=true)):PG X' tg (tOfT' X'.K t)∧tgtK t=xs.length:=by
 have nd:X'.N.Nodup:=by rw [h.N]; exact h.nd
 cases tg with
 | Name x pos =>
  cases e
  obtain ⟨g1,g2⟩:=hN 0 x rfl
  obtain ⟨l1,l2⟩:=tgt_kind h g2
  exact ⟨pg_name nd (by rw [h.N]; exact g1) l1 l2,rfl⟩
 | Tuple es n pos =>
  unfold tgtOf at e
  obtain ⟨ys,e1,e⟩:=Option.map_eq_some_iff.mp e
  cases e
  obtain ⟨a1,a2⟩:=assignEach_names (env:=X'.env) e1
  obtain ⟨n1,n2⟩:=namesOf_get e1
  refine ⟨?_,rfl⟩
  have:=pgs_names (X:=X') (es:=es) (s:=0) (fun i e he=>by
   obtain ⟨x,pos,rfl,g⟩:=n2 i e he
   obtain ⟨g1,g2⟩:=hN i x g
   obtain ⟨l1,l2⟩:=tgt_kind h g2
   exact ⟨x,pos,rfl,by rw [h.N,Nat.zero_add]; exact g1,l1,l2⟩) nd
  rw [n1] at this
  exact pg_tup h.calm this a1 a2
 | _=>cases e
theorem comp_h (h:XOk X sc ar cl k) {xs:List Str}{scope:Scope}{js:List Nat} (hc:compOk sc xs scope=true) (e1:slots sc.N (freesOf scope.names)=some js):CompH X scope (xs++freesOf scope.names) xs.length js:=by
 obtain ⟨l1,l2⟩:=slots_get e1
 unfold compOk at hc
 simp only [Bool.and_eq_true,decide_eq_true_eq] at hc
 obtain ⟨⟨⟨⟨⟨⟨c1,c2⟩,c3⟩,c4⟩,c5⟩,c6⟩,c7⟩:=hc
 have hf7:∀ x,(x,NameKind.free)∈scope.names→(sc.names.lookup x=some .cell∨sc.names.lookup x=some .free)∧scope.names.lookup x=some .free:=fun x hx=>by
  have hm:x∈freesOf scope.names:=by
   unfold freesOf
   rw [List.mem_map]
   exact ⟨(x,.free),by rw [List.mem_filter]; exact ⟨hx,by simp⟩,rfl⟩
  have:=List.all_eq_true.mp c7 x hm
  simpa using this
 refine ⟨h.calm,c1,fun x hx=>?_,fun x hx=>?_,fun x hx hxl=>?_,?_,fun i j hj=>?_⟩
 ·have:=List.all_eq_true.mp c2 _ hx
  simpa using this
 ·rcases (hf7 x hx).1 with q | q
  ·exact .inl (h.cel x q)
  ·exact h.fre x q
 ·have:=List.all_eq_true.mp c3 x hx
  simp only [Bool.or_eq_true,bne_iff_ne,ne_eq,beq_iff_eq] at this
  rcases this with z | z
  ·exact absurd hxl z
  ·exact z
 ·rw [List.length_append,l1]
 ·obtain ⟨x,g1,g2⟩:=l2 i j hj
  have hm:(x,NameKind.free)∈scope.names:=by
   have:=List.mem_of_getElem? g1
   unfold freesOf at this
   rw [List.mem_map] at this
   obtain ⟨⟨y,ky⟩,m1,m2⟩:=this
   rw [List.mem_filter] at m1
   dsimp only at m2
   subst m2
   have:ky=.free:=by simpa using m1.2
   subst this
   exact m1.1
  obtain ⟨v1,v2⟩:=hf7 x hm
  refine ⟨x,?_,by rw [h.N]; exact g2,v2,h.vis (.inr v1)⟩
  rw [List.getElem?_append_right (by omega),Nat.add_sub_cancel_left]; exact g1
theorem comp_t (h:XOk X sc ar cl k) {xs:List Str}{scope:Scope}{tg:Expr}{t:Tgt} (hc:compOk sc xs scope=true) (e0:tgtOf tg=some (t,xs)) (cl':List (Str × Addr)) (s:Shared) (H:Hp) (C:Addr) (ex:List Addr):PG (cxComp X scope (xs++freesOf scope.names) cl' s H C ex) tg (tOfT' X.K t) :=
 (s_tgt (h.comp hc cl' s H C ex) e0 fun i x hx=>by
  unfold compOk at hc
  simp only [Bool.and_eq_true,decide_eq_true_eq] at hc
  have c5:=hc.1.1.2
  have hl:=(List.getElem?_eq_some_iff.mp hx).1
  refine ⟨?_,?_⟩
  ·show (xs++freesOf scope.names)[i]?=some x
   rw [List.getElem?_append_left hl]; exact hx
  ·have:=List.all_eq_true.mp c5 x (List.mem_of_getElem? hx)
   rw [Bool.or_eq_true,beq_iff_eq,beq_iff_eq] at this
   rcases this with z | z
   ·exact .inl z
   ·exact .inr ⟨z,decide_eq_true (look_mem z)⟩).1
inductive ComprE (X:Cx) (sc:Sc) (tg iter elt:Expr) (ifs:List Expr) (scope:Scope) (c:C):Prop
 | mk (t:Tgt) (xs:List Str) (js:List Nat) (ci:CI) (ct:CT) (ce:C) (B:CompH X scope (xs++freesOf scope.names) xs.length js) (hi:PI X tg iter (tOfI X.K ci)) (hs:isSet iter=false)
  (hg:∀ cl' s H C ex,PG (cxComp X scope (xs++freesOf scope.names) cl' s H C ex) tg (tOfT' X.K t)) (hT:∀ cl' s H C ex,PTs (cxComp X scope (xs++freesOf scope.names) cl' s H C ex) ifs (tOfT X.K ct))
  (hE:∀ cl' s H C ex,PE (cxComp X scope (xs++freesOf scope.names) cl' s H C ex) elt (tOf X.K ce)) (ht:tgtK t≤xs.length) (h1:1≤xs.length) (hc:c=cComp ci xs.length js t ct ce)
theorem compr_e (h:XOk X sc ar cl k) {it:Option CI}{fe:Sc→Expr→Option C}{ft:Sc→Expr→Option CT}{tg iter elt:Expr}{ifs:List Expr}{scope:Scope}{c:C} (e:cCompr sc it fe ft tg elt ifs scope=some c)
  (hi:∀ ci,it=some ci→PI X tg iter (tOfI X.K ci)∧isSet iter=false) (hfe:∀ X' sc',XOk X' sc' ar cl k→Keeps X' (fe sc')) (hft:∀ X' sc',XOk X' sc' ar cl k→KeepsT X' (ft sc')):ComprE X sc tg iter elt ifs scope c:=by
 unfold cCompr at e
 obtain ⟨⟨t,xs⟩,e0,e⟩:=Option.bind_eq_some_iff.mp e
 dsimp only at e
 by_cases hc:compOk sc xs scope=true
 ·rw [if_pos hc] at e
  obtain ⟨js,e1,u1⟩:=Option.bind_eq_some_iff.mp e
  obtain ⟨ci,e2,u2⟩:=Option.bind_eq_some_iff.mp u1
  obtain ⟨ce,e3,u3⟩:=Option.bind_eq_some_iff.mp u2
  clear e u1 u2
  obtain ⟨i1,i2⟩:=hi ci e2
  have c6:1≤xs.length:=by
   have hc':=hc
   unfold compOk at hc'
   simp only [Bool.and_eq_true,decide_eq_true_eq] at hc'
   exact hc'.1.2
  have hE:=fun cl' s H C ex=>hfe _ _ (h.comp hc cl' s H C ex) elt ce e3
  have ht:tgtK t≤xs.length:=by rw [tgt_len e0]; exact Nat.le_refl _
  cases ifs with
  | nil =>
   cases u3
   exact ⟨t,xs,js,ci,_,ce,comp_h h hc e1,i1,i2,comp_t h hc e0,fun cl' s H C ex pins s' σ H' Q I ⟨μ,ρ,S,d,S',sr,re,e,y⟩=>pts_nil pins s' σ H' Q I (by obtain ⟨rfl,rfl⟩:=ret_ok e; exact y H' μ sr (Step.refl _ _ _)),hE,ht,c6,rfl⟩
  | cons q r =>
   cases r with
   | nil =>
    obtain ⟨ct,e4,u4⟩:=Option.map_eq_some_iff.mp u3
    exact ⟨t,xs,js,ci,ct,ce,comp_h h hc e1,i1,i2,comp_t h hc e0,fun cl' s H C ex=>pts_one (hft _ _ (h.comp hc cl' s H C ex) q ct e4),hE,ht,c6,u4.symm⟩
   | cons _ _=>cases u3
 ·rw [if_neg hc] at e; cases e
theorem s_compr (h:XOk X sc ar cl k) {it:Option CI}{fe:Sc→Expr→Option C}{ft:Sc→Expr→Option CT}{tg iter elt:Expr}{ifs:List Expr}{scope:Scope}{pos:Pos}{c:C} (e:cCompr sc it fe ft tg elt ifs scope=some c)
  (hi:∀ ci,it=some ci→PI X tg iter (tOfI X.K ci)∧isSet iter=false) (hfe:∀ X' sc',XOk X' sc' ar cl k→Keeps X' (fe sc')) (hft:∀ X' sc',XOk X' sc' ar cl k→KeepsT X' (ft sc')):PE X (.ListComp elt [⟨tg,iter,ifs,0⟩] scope pos) (tOf X.K c):=by
 obtain ⟨t,xs,js,ci,ct,ce,B,i1,i2,hg,hT,hE,ht,h1,rfl⟩:=compr_e h e hi hfe hft
 exact (pe_comp B i1 hg hT hE (folded_ok i2)).weak fun σ H Q q=>of_comp ht h1 q
theorem s_comprU (h:XOk X sc ar cl k) {it:Option CI}{fe:Sc→Expr→Option C}{ft:Sc→Expr→Option CT}{tg iter elt:Expr}{ifs:List Expr}{scope:Scope}{pos pos' spos:Pos}{y0:Str}{go:TG} (hgo:PG X (.Name y0 pos') go) (hsw:swapsWith (.ListComp elt [⟨tg,iter,ifs,0⟩] scope pos) (some (.Name y0 pos')) spos.line X.env=pure true) {c:C} (e:cCompr sc it fe ft tg elt ifs scope=some c)
  (hi:∀ ci,it=some ci→PI X tg iter (tOfI X.K ci)∧isSet iter=false) (hfe:∀ X' sc',XOk X' sc' ar cl k→Keeps X' (fe sc')) (hft:∀ X' sc',XOk X' sc' ar cl k→KeepsT X' (ft sc')):PS X (.Assign [.Name y0 pos'] (.ListComp elt [⟨tg,iter,ifs,0⟩] scope pos) spos) (tAsg (tOf X.K c) go):=by
 obtain ⟨t,xs,js,ci,ct,ce,B,i1,i2,hg,hT,hE,ht,h1,rfl⟩:=compr_e h e hi hfe hft
 exact (ps_compSet hgo hsw B i1 hg hT hE (folded_ok i2)).weak fun D σ H q=>of_comp ht h1 q
end
open PySem PySem.Spec PyProof.Rows
noncomputable def lamSc (scope:Scope):Sc:=⟨freesOf scope.names,scope.names,none⟩
noncomputable def noArgs (p:Arguments):Bool:=p.posonlyargs.isEmpty&&p.args.isEmpty&&p.vararg.isNone&&p.kwonlyargs.isEmpty&&p.kw_defaults.isEmpty&&p.kwarg.isNone&&p.defaults.isEmpty
theorem noArgs_eq {p:Arguments} (h:noArgs p=true):p={ posonlyargs:=[],args:=[],vararg:=none,kwonlyargs:=[],kw_defaults:=[],kwarg:=none,defaults:=[] }:=by
 obtain ⟨a,b,c,d,e,f,g⟩:=p
 unfold noArgs at h
 simp only [Bool.and_eq_true,List.isEmpty_iff,Option.isNone_iff_eq_none] at h
 obtain ⟨⟨⟨⟨⟨⟨rfl,rfl⟩,rfl⟩,rfl⟩,rfl⟩,rfl⟩,rfl⟩:=h
 rfl
noncomputable def lamOk (sc:Sc) (params:Arguments) (scope:Scope):Bool :=
 noArgs params&&decide (scope.kind=.function)&&!scope.isCoroutine&&!scope.isGenerator&&scope.names.all (fun y=>y.2 != .cell)&&decide (freesOf scope.names).Nodup
 && (freesOf scope.names).all (fun x=>sc.names.lookup x == some .cell&&scope.names.lookup x == some .free)
noncomputable def lamOf (sc:Sc) (ar:Str→Option Nat) (t:Str):List Expr→Option (List (Str × Str) × List Nat × Scope × Str × List Expr)
 | [.Lambda params (.Call (.Name g _) args [] _) scope _] =>
  if sc.fn=some lamD∧lamOk sc params scope=true∧sc.names.lookup t=some .globalImplicit∧(t == ("__debug__":Str))=false∧scope.names.lookup g=some .globalImplicit∧ar g=some args.length∧args≠[]∧(g == ("__debug__":Str))=false then
   (tkL.lookup t).bind fun ws=>(slots sc.N (freesOf scope.names)).map fun js=>(ws,js,scope,g,args)
  else none
 | _=>none
section
variable {X:Cx}{sc:Sc}{ar:Str→Option Nat}{cl:Str→List D→M D}{k:Nat}
theorem frees_mem {ns:List (Str × NameKind)}{x:Str} (h:(x,NameKind.free)∈ns):x∈freesOf ns:=List.mem_map.mpr ⟨(x,.free),List.mem_filter.mpr ⟨h,by simp⟩,rfl⟩
theorem s_take (h:XOk X sc ar cl k) {t g:Str}{es args:List Expr}{ws:List (Str × Str)}{js:List Nat}{scope:Scope}{f:Expr→Option C}{cs:List C}{p pos:Pos} (e:lamOf sc ar t es=some (ws,js,scope,g,args)) (hf:∀ X',XOk X' (lamSc scope) ar cl k→Keeps X' f) (e1:cArgs? f args=some cs) :
  PE X (.Call (.Name t p) es [] pos) (tOf X.K (cTake lamD ws js (cAppX (cl g) (cArgs cs)))):=by
 unfold lamOf at e
 split at e
 ·rename_i params g' p1 args' p2 scope' p3
  split at e
  ·rename_i hc
   obtain ⟨c1,c2,c3,c4,c5,c6,c7,c8⟩:=hc
   obtain ⟨ws',w1,e⟩:=Option.bind_eq_some_iff.mp e
   obtain ⟨js',w2,e⟩:=Option.map_eq_some_iff.mp e
   cases e
   unfold lamOk at c2
   simp only [Bool.and_eq_true,decide_eq_true_eq,Bool.not_eq_true',List.all_eq_true,beq_iff_eq,bne_iff_ne] at c2
   obtain ⟨⟨⟨⟨⟨⟨d1,d2⟩,d3⟩,d4⟩,d5⟩,d6⟩,d7⟩:=c2
   obtain ⟨s1,s2⟩:=slots_get w2
   have rT:=h.roomT c1
   refine se_take (N:=freesOf scope.names) (h.tk c1 _ _ w1) (h.lam c1) (h.gl _ c3) c4 (rT.mono (by omega)) ⟨d2,d3,d4,d5,noArgs_eq d1,fun x hx=>h.cel x (d7 x (frees_mem hx)).1,s1,fun i j hj=>?_⟩ fun fa cd clo e1' outer s H E=>?_
   ·obtain ⟨x,n1,n2⟩:=s2 i j hj
    exact ⟨x,n1,by rw [h.N]; exact n2,(d7 x (List.mem_of_getElem? n1)).2⟩
   ·have hX:XOk (cxLam X.prog X.w X.K X.mg X.base (freesOf scope.names) (lqual lamD) scope fa cd clo (X.A.deeper e1') outer s H E) (lamSc scope) ar cl k:={
     calm:=rfl
     N:=rfl
     nd:=d6
     gl:=fun x hx=>hx
     loc:=fun x hx=>hx
     cel:=fun x hx=>hx
     fre:=fun x hx=>.inr hx
     fnn:=fun z=>by cases z
     room:=(rT.deeper e1').deeper _
     roomT:=fun z=>by cases z
     lam:=fun z=>by cases z
     tk:=fun z=>by cases z
     rf:=fun z=>by cases z
     xk:=h.xk
     xm:=h.xm
     xv:=h.xv
     own:=PassesOwn.leaving
     exc:=h.exc
     blt:=h.blt
     fns:=h.fns }
    obtain ⟨h1,h2⟩:=s_args (hf _ hX) e1
    obtain ⟨⟨ps,Ca⟩,hlen⟩:=hX.fns g _ c6
    cases args with
    | nil=>exact absurd rfl c7
    | cons a es=>exact (pe_callX (p:=p1) (pos:=p2) Ca hX.room (hX.gl g c5) ex_passes h1 (Nat.le_refl _) c8 (star_cons (h2 a (by simp))) (noStar_any fun b hb=>h2 b (by simp [hb]))).weak (of_callX2 hlen)
  ·cases e
 ·cases e
noncomputable def rfC (sc:Sc) (t:Str) (params:Arguments) (scope:Scope):Bool:=decide (sc.fn=some lamD)&&lamOk sc params scope&&decide (sc.names.lookup t=some .globalImplicit)&&!(t == ("__debug__":Str))&&decide (t∈rfN)
theorem s_refuseG (h:XOk X sc ar cl k) {t:Str}{params:Arguments}{body:Expr}{scope:Scope}{js:List Nat}{cb:C}{p lpos pos:Pos} (hc:rfC sc t params scope=true) (w2:slots sc.N (freesOf scope.names)=some js) (hb:∀ X',XOk X' (lamSc scope) ar cl k→PE X' body (tOfX X' cb)) :
  PE X (.Call (.Name t p) [.Lambda params body scope lpos] [] pos) (tOf X.K (cRefuse lamD 4 rfB js cb)):=by
 unfold rfC at hc
 simp only [Bool.and_eq_true,decide_eq_true_eq,Bool.not_eq_true'] at hc
 obtain ⟨⟨⟨⟨c1,c2⟩,c3⟩,c4⟩,c9⟩:=hc
 unfold lamOk at c2
 simp only [Bool.and_eq_true,decide_eq_true_eq,Bool.not_eq_true',List.all_eq_true,beq_iff_eq,bne_iff_ne] at c2
 obtain ⟨⟨⟨⟨⟨⟨d1,d2⟩,d3⟩,d4⟩,d5⟩,d6⟩,d7⟩:=c2
 obtain ⟨s1,s2⟩:=slots_get w2
 have rT:=h.roomT c1
 refine se_refuse (N:=freesOf scope.names) (h.rf c1 _ c9) (fun c hc C hm=>?_) (h.lam c1) (h.gl _ c3) c4 (rT.mono (by omega)) ⟨d2,d3,d4,d5,noArgs_eq d1,fun x hx=>h.cel x (d7 x (frees_mem hx)).1,s1,fun i j hj=>?_⟩ fun fa cd clo e1' outer s H E=>hb _ {
   calm:=rfl
   N:=rfl
   nd:=d6
   gl:=fun x hx=>hx
   loc:=fun x hx=>hx
   cel:=fun x hx=>hx
   fre:=fun x hx=>.inr hx
   fnn:=fun z=>by cases z
   room:=(rT.deeper e1').deeper _
   roomT:=fun z=>by cases z
   lam:=fun z=>by cases z
   tk:=fun z=>by cases z
   rf:=fun z=>by cases z
   xk:=h.xk
   xm:=h.xm
   xv:=h.xv
   own:=PassesOwn.leaving
   exc:=h.exc
   blt:=h.blt
   fns:=h.fns }
 ·obtain ⟨C',q1,q2⟩:=h.xm c hc
  rw [hm] at q1; cases q1; exact q2
 ·obtain ⟨x,n1,n2⟩:=s2 i j hj
  exact ⟨x,n1,by rw [h.N]; exact n2,(d7 x (List.mem_of_getElem? n1)).2⟩
noncomputable def rfOf (sc:Sc) (ar:Str→Option Nat) (t:Str):List Expr→Option (List Nat × Scope × Str × List Expr)
 | [.Lambda params (.Call (.Name g _) args [] _) scope _] =>
  if rfC sc t params scope=true∧scope.names.lookup g=some .globalImplicit∧ar g=some args.length∧args≠[]∧(g == ("__debug__":Str))=false then
   (slots sc.N (freesOf scope.names)).map fun js=>(js,scope,g,args)
  else none
 | _=>none
theorem s_refuse (h:XOk X sc ar cl k) {t g:Str}{es args:List Expr}{js:List Nat}{scope:Scope}{f:Expr→Option C}{cs:List C}{p pos:Pos} (e:rfOf sc ar t es=some (js,scope,g,args)) (hf:∀ X',XOk X' (lamSc scope) ar cl k→Keeps X' f) (e1:cArgs? f args=some cs) :
  PE X (.Call (.Name t p) es [] pos) (tOf X.K (cRefuse lamD 4 rfB js (cAppX (cl g) (cArgs cs)))):=by
 unfold rfOf at e
 split at e
 ·rename_i params g' p1 args' p2 scope' p3
  split at e
  ·rename_i hc
   obtain ⟨c1,c5,c6,c7,c8⟩:=hc
   obtain ⟨js',w2,e⟩:=Option.map_eq_some_iff.mp e
   cases e
   refine s_refuseG h c1 w2 fun X' hX=>?_
   obtain ⟨h1,h2⟩:=s_args (hf _ hX) e1
   obtain ⟨⟨ps,Ca⟩,hlen⟩:=hX.fns g _ c6
   cases args with
   | nil=>exact absurd rfl c7
   | cons a es=>exact (pe_callX (p:=p1) (pos:=p2) Ca hX.room (hX.gl g c5) ex_passes h1 (Nat.le_refl _) c8 (star_cons (h2 a (by simp))) (noStar_any fun b hb=>h2 b (by simp [hb]))).weak (of_callX2 hlen)
  ·cases e
 ·cases e
noncomputable def isxOf (sc:Sc) (ar:Str→Option Nat) (x:Str):List Expr→Option (Expr × Str)
 | [a,.Name g _]=>if x = "isinstance"∧sc.names.lookup x=some .globalImplicit∧ar x=none∧sc.names.lookup g=some .globalImplicit∧(g = "ValueError"∨g∈xoL)∧notStar a=true then some (a,g) else none
 | _=>none
theorem s_isx (h:XOk X sc ar cl k) {x g:Str}{es:List Expr}{a:Expr}{f:Expr→Option C} (hf:Keeps X f) {c:C}{p pos:Pos} (e:isxOf sc ar x es=some (a,g)) (e1:f a=some c):PE X (.Call (.Name x p) es [] pos) (tOf X.K (cUn (oIsX g) c)):=by
 unfold isxOf at e
 split at e
 ·rename_i a' g' p2
  split at e
  ·rename_i hc
   obtain ⟨rfl,c2,c3,c4,c5,c6⟩:=hc
   cases e
   refine se_isx (hf _ _ e1) (h.gl _ c2) (h.blt.b _ (by decide +kernel) c3) h.xk ?_ (star_cons c6)
   rcases c5 with rfl | c5
   ·exact .inl ⟨rfl,h.gl _ c4,h.xv⟩
   ·refine .inr ⟨c5,h.gl _ c4,h.xm _ c5,?_⟩
    simp only [xoL,List.mem_cons,List.not_mem_nil,or_false] at c5
    rcases c5 with rfl | rfl | rfl | rfl | rfl | rfl | rfl <;> decide +kernel
  ·cases e
 ·cases e
end
section
variable (ar:Str→Option Nat) (cl:Str→List D→M D)
mutual
noncomputable def cE:Nat→Sc→Expr→Option C
 | 0,_,_=>none
 | n+1,sc,e=>match e with
  | .Constant v _ _=>cConst v
  | .Name x _=>cName sc ar x
  | .BinOp a op b _=>(opBin op).bind fun o=>(cE n sc a).bind fun ca=>(cE n sc b).map fun cb=>cBin o ca cb
  | .UnaryOp op a _=>match op with
   | .USub=>(cE n sc a).map fun ca=>cUn oNeg ca
   | .Not=>(cE n sc a).map fun ca=>cNotV ca
   | _=>none
  | .BoolOp op vs _=>cBoolV op (cE n sc) vs
  | .IfExp t a b _=>(cT n sc t).bind fun ct=>(cE n sc a).bind fun ca=>(cE n sc b).map fun cb=>cIf ct ca cb
  | .Compare a ops bs _=>cCompare (cE n sc) a ops bs
  | .Tuple es _ _=>(cArgs? (cE n sc) es).bind fun cs=>if cs.length≤1000 then some (cTup (cArgs cs)) else none
  | .List es _=>(cArgs? (cE n sc) es).bind fun cs=>if cs.length≤1000 then some (cLst (cArgs cs)) else none
  | .Subscript a b _=>cSub (cE n sc) a b
  | .FormattedValue a v sp _=>if v=-1∧sp=none then (cE n sc a).map cFmt else none
  | .JoinedStr es _=>cJoined (cE n sc) es
  | .Dict ks vs _=>cDict (cE n sc) ks vs
  | .Call fn es kw cpos=>match kw with
   | []=>match fn with
    | .Name x _=>match lamOf sc ar x es with
     | some (ws,js,scope,g,args)=>(cArgs? (cE n (lamSc scope)) args).map fun cs=>cTake lamD ws js (cAppX (cl g) (cArgs cs))
     | none=>match rfOf sc ar x es with
      | some (js,scope,g,args)=>(cArgs? (cE n (lamSc scope)) args).map fun cs=>cRefuse lamD 4 rfB js (cAppX (cl g) (cArgs cs))
      | none=>match isxOf sc ar x es with
       | some (a,g)=>(cE n sc a).map fun ca=>cUn (oIsX g) ca
       | none=>cCallN sc ar cl (cE n sc) x es
    | .Attribute o m apos=>cMethod (cE n sc) o m es apos cpos
    | _=>none
   | _::_=>none
  | .ListComp elt gens scope _=>match gens with
   | [⟨tg,iter,ifs,ia⟩]=>if ia=0 then cCompr sc (cIter sc ar (cE n sc) tg iter) (cE n) (cT n) tg elt ifs scope else none
   | _=>none
  | _=>none
noncomputable def cT:Nat→Sc→Expr→Option CT
 | 0,_,_=>none
 | n+1,sc,e=>match e with
  | .UnaryOp op a _=>match op with
   | .Not=>(cT n sc a).map fun ca=>cNotT ca
   | _=>(cE n sc e).map cTru
  | .BoolOp op vs _=>cBoolT op (cT n sc) vs
  | .IfExp _ _ _ _=>none
  | .Compare a ops bs _=>tCompare (cE n sc) a ops bs
  | _=>(cE n sc e).map cTru
end
end
section
variable {X:Cx}{sc:Sc}{ar:Str→Option Nat}{cl:Str→List D→M D}{k:Nat}
theorem s_all:∀ n:Nat,(∀ X sc,XOk X sc ar cl k→Keeps X (cE ar cl n sc))∧(∀ X sc,XOk X sc ar cl k→KeepsT X (cT ar cl n sc))
 | 0=>⟨fun X sc h e c q=>(by cases q),fun X sc h e c q=>(by cases q)⟩
 | n+1=>by
  obtain ⟨ihE,ihT⟩:=s_all n
  refine ⟨fun X sc h e c q=>?_,fun X sc h e c q=>?_⟩
  ·have hf:=ihE X sc h
   have ht:=ihT X sc h
   cases e with
   | Constant v j pos=>exact s_const q
   | Name x pos=>exact s_name h q
   | BinOp a op b pos =>
    obtain ⟨o,e0,q1⟩:=Option.bind_eq_some_iff.mp q
    obtain ⟨ca,e1,q2⟩:=Option.bind_eq_some_iff.mp q1
    obtain ⟨cb,e2,q3⟩:=Option.map_eq_some_iff.mp q2
    subst q3
    exact se_bin (s_op e0) (hf _ _ e1) (hf _ _ e2)
   | UnaryOp op a pos =>
    cases op with
    | USub =>
     obtain ⟨ca,e1,q2⟩:=Option.map_eq_some_iff.mp q
     subst q2
     exact se_un us_neg (hf _ _ e1)
    | Not =>
     obtain ⟨ca,e1,q2⟩:=Option.map_eq_some_iff.mp q
     subst q2
     exact se_not (hf _ _ e1)
    | _=>cases q
   | BoolOp op vs pos=>exact s_boolV hf q
   | IfExp t a b pos =>
    obtain ⟨ct,e0,q1⟩:=Option.bind_eq_some_iff.mp q
    obtain ⟨ca,e1,q2⟩:=Option.bind_eq_some_iff.mp q1
    obtain ⟨cb,e2,q3⟩:=Option.map_eq_some_iff.mp q2
    subst q3
    exact se_ifExp (ht _ _ e0) (hf _ _ e1) (hf _ _ e2)
   | Compare a ops bs pos=>exact s_compare h.room hf q
   | Tuple es j pos =>
    obtain ⟨cs,e1,q1⟩:=Option.bind_eq_some_iff.mp q
    split at q1
    ·rename_i hl; cases q1; exact se_tup (s_args hf e1).1 hl
    ·cases q1
   | List es pos =>
    obtain ⟨cs,e1,q1⟩:=Option.bind_eq_some_iff.mp q
    split at q1
    ·rename_i hl; cases q1; exact se_lst (s_args hf e1).1 hl
    ·cases q1
   | Subscript a b pos=>exact s_sub h.room hf q
   | FormattedValue a v sp pos =>
    change (if v=-1∧sp=none then (cE ar cl n sc a).map cFmt else none)=some c at q
    split at q
    ·rename_i hc
     obtain ⟨rfl,rfl⟩:=hc
     obtain ⟨ca,e1,q2⟩:=Option.map_eq_some_iff.mp q
     subst q2
     exact se_fmt (hf _ _ e1)
    ·cases q
   | JoinedStr es pos=>exact s_joined hf q
   | Dict ks vs pos=>exact s_dict hf q
   | Call fn es kw cpos =>
    cases kw with
    | cons _ _=>cases q
    | nil =>
     cases fn with
     | Name x p =>
      change (match lamOf sc ar x es with | some (ws,js,scope,g,args)=>(cArgs? (cE ar cl n (lamSc scope)) args).map fun cs=>cTake lamD ws js (cAppX (cl g) (cArgs cs)) | none=>match rfOf sc ar x es with | some (js,scope,g,args)=>(cArgs? (cE ar cl n (lamSc scope)) args).map fun cs=>cRefuse lamD 4 rfB js (cAppX (cl g) (cArgs cs)) | none=>match isxOf sc ar x es with | some (a,g)=>(cE ar cl n sc a).map fun ca=>cUn (oIsX g) ca | none=>cCallN sc ar cl (cE ar cl n sc) x es)=some c at q
      split at q
      ·rename_i ws js scope g args hl
       obtain ⟨cs,e1,q1⟩:=Option.map_eq_some_iff.mp q
       subst q1
       exact s_take h hl (fun X' h'=>ihE X' _ h') e1
      ·split at q
       ·rename_i js scope g args hl
        obtain ⟨cs,e1,q1⟩:=Option.map_eq_some_iff.mp q
        subst q1
        exact s_refuse h hl (fun X' h'=>ihE X' _ h') e1
       ·split at q
        ·rename_i a g hl
         obtain ⟨ca,e1,q1⟩:=Option.map_eq_some_iff.mp q
         subst q1
         exact s_isx h hf hl e1
        ·exact s_callN h hf q
     | Attribute o m apos=>exact s_method h.room hf q
     | _=>cases q
   | ListComp elt gens scope pos =>
    cases gens with
    | nil=>cases q
    | cons g gs =>
     obtain ⟨tg,iter,ifs,ia⟩:=g
     cases gs with
     | cons _ _=>cases q
     | nil =>
      change (if ia=0 then cCompr sc (cIter sc ar (cE ar cl n sc) tg iter) (cE ar cl n) (cT ar cl n) tg elt ifs scope else none)=some c at q
      split at q
      ·rename_i hz
       subst hz
       exact s_compr h q (fun ci e=>s_iter h hf e) (fun X' sc' h'=>ihE X' sc' h') (fun X' sc' h'=>ihT X' sc' h')
      ·cases q
   | _=>cases q
  ·have hf:=ihE X sc h
   have ht:=ihT X sc h
   have dflt:∀ {c:CT},(cE ar cl n sc e).map cTru=some c→(∀ whole,isTrue e X.env whole=(do let v ← whole; standAt e.pos; holding [v] (truthy v)))→PT X e (tOfT X.K c):=fun {c} q he=>by
    obtain ⟨ca,e1,q2⟩:=Option.map_eq_some_iff.mp q
    subst q2
    exact st_tru (hf _ _ e1) he
   cases e with
   | UnaryOp op a pos =>
    cases op with
    | Not =>
     obtain ⟨ca,e1,q2⟩:=Option.map_eq_some_iff.mp q
     subst q2
     exact st_not (ht _ _ e1)
    | USub=>exact dflt q fun _=>rfl
    | UAdd=>exact dflt q fun _=>rfl
    | Invert=>exact dflt q fun _=>rfl
   | BoolOp op vs pos=>exact (s_boolT ht q).pt
   | IfExp t a b pos=>cases q
   | Compare a ops bs pos=>exact s_tcompare h.room hf q
   | _=>exact dflt q fun _=>rfl
section
variable (ar:Str→Option Nat) (cl:Str→List D→M D)
noncomputable def cTg (sc:Sc) (x:Str):Option G:=(slotOf sc.N x 0).bind fun i=>if sc.names.lookup x=some .local∨(sc.fn.isSome=true∧sc.names.lookup x=some .cell) then some (gN i) else none
mutual
noncomputable def cG:Nat→Sc→Expr→Option G
 | 0,_,_=>none
 | n+1,sc,e=>match e with
  | .Name x _=>cTg sc x
  | .Subscript a b _=>match b with
   | _=>if isSlice b then none else (cE ar cl n sc a).bind fun ca=>(cE ar cl n sc b).map fun cb=>gS ca cb
  | .Tuple es _ _=>(cGs n sc es).map fun gs=>gT gs
  | _=>none
noncomputable def cGs:Nat→Sc→List Expr→Option (List G)
 | 0,_,_=>none
 | n+1,sc,es=>match es with
  | []=>some []
  | e::r=>if notStar e then (cG n sc e).bind fun g=>(cGs n sc r).map fun gs=>g::gs else none
end
end
theorem XOk.nd' (h:XOk X sc ar cl k):X.N.Nodup:=by rw [h.N]; exact h.nd
theorem s_tg (h:XOk X sc ar cl k) {x:Str}{g:G} (e:cTg sc x=some g):∃ i,g=gN i∧X.N[i]?=some x∧Loc X.env.scope x∧(X.fn x=true∨X.env.scope.names.lookup x=some .local):=by
 unfold cTg at e
 obtain ⟨i,e1,e2⟩:=Option.bind_eq_some_iff.mp e
 split at e2
 ·rename_i hc
  cases e2
  refine ⟨i,rfl,by rw [h.N]; exact (slotOf_get e1).2,?_⟩
  rcases hc with q | ⟨q1,q2⟩
  ·exact ⟨.inl (h.loc x q),.inr (h.loc x q)⟩
  ·exact ⟨.inr (h.cel x q2),.inl (h.fnn q1 x)⟩
 ·cases e2
theorem assign_sub {a b:Expr}{pos:Pos}{env:Env} (h:isSlice b=false):∀ v,assign (.Subscript a b pos) env v=(do
   let ov ← holding [v] (eval a env)
   let iv ← holding [v,ov] (eval b env)
   standAt pos
   holding [v,ov,iv] (setItem ov iv v)
   release [v,ov,iv] []):=by
 cases b <;> first | (intro v; rfl) | cases h
theorem assignEach_cons {e:Expr}{es:List Expr}{env:Env} (h:notStar e=true):assignEach (e::es) env=(false,assign e env)::assignEach es env:=by
 cases e <;> first | rfl | cases h
theorem s_G:∀ n:Nat,(∀ X sc,XOk X sc ar cl k→∀ e g,cG ar cl n sc e=some g→PG X e (tOfG X.K g))∧(∀ X sc,XOk X sc ar cl k→∀ es gs,cGs ar cl n sc es=some gs→PGs X es (tOfGs X.K gs)∧(assignEach es X.env).length=gs.length∧(assignEach es X.env).findIdx? (·.1)=none)
 | 0=>⟨fun X sc h e c q=>(by cases q),fun X sc h e c q=>(by cases q)⟩
 | n+1=>by
  obtain ⟨ih,ihs⟩:=s_G n
  refine ⟨fun X sc h e g q=>?_,fun X sc h es gs q=>?_⟩
  ·cases e with
   | Name x pos =>
    obtain ⟨i,rfl,h1,h2,h3⟩:=s_tg h q
    exact sg_name (pg_name h.nd' h1 h2 h3)
   | Subscript a b pos =>
    change (if isSlice b then none else (cE ar cl n sc a).bind fun ca=>(cE ar cl n sc b).map fun cb=>gS ca cb)=_ at q
    split at q
    ·cases q
    ·rename_i hs
     obtain ⟨ca,e1,q1⟩:=Option.bind_eq_some_iff.mp q
     obtain ⟨cb,e2,q2⟩:=Option.map_eq_some_iff.mp q1
     subst q2
     exact sg_sub (hu_of h.room) ((s_all n).1 X sc h _ _ e1) ((s_all n).1 X sc h _ _ e2) (assign_sub (by simpa using hs))
   | Tuple es j pos =>
    obtain ⟨gs,e1,q1⟩:=Option.map_eq_some_iff.mp q
    subst q1
    obtain ⟨h1,h2,h3⟩:=ihs X sc h es gs e1
    exact sg_tup h.calm h1 h2 h3
   | _=>cases q
  ·cases es with
   | nil=>cases q; exact ⟨sgs_nil,rfl,rfl⟩
   | cons e r =>
    change (if notStar e=true then (cG ar cl n sc e).bind fun g=>(cGs ar cl n sc r).map fun gs=>g::gs else none)=_ at q
    split at q
    ·rename_i hs
     obtain ⟨g,e1,q1⟩:=Option.bind_eq_some_iff.mp q
     obtain ⟨gs',e2,q2⟩:=Option.map_eq_some_iff.mp q1
     subst q2
     obtain ⟨h1,h2,h3⟩:=ihs X sc h r gs' e2
     have ha:=assignEach_cons (es:=r) (env:=X.env) hs
     refine ⟨sgs_cons (ih X sc h e g e1) h1 (by rw [ha]; rfl),by rw [ha]; simp [h2],by rw [ha,List.findIdx?_cons]; simp [h3]⟩
    ·cases q
noncomputable def isComp:Expr→Bool
 | .ListComp _ _ _ _=>true
 | .SetComp _ _ _ _=>true
 | .DictComp _ _ _ _ _=>true
 | _=>false
theorem swaps_no {e:Expr}{t:Option Expr}{n:Nat}{env:Env} (h:isComp e=false):swapsWith e t n env=pure false:=by
 cases e <;> first | rfl | cases h
noncomputable def compBad:Expr→Expr→Bool
 | .Name _ _,.ListComp _ _ _ _=>false
 | .Tuple _ _ _,.ListComp _ _ _ _=>false
 | _,e=>isComp e
theorem s_compSet (h:XOk X sc ar cl k):∀ {n:Nat}{elt:Expr}{gens:List Comprehension}{scope:Scope}{pos pos' spos:Pos}{x:Str}{c:C}{i:Nat} (q:cE ar cl n sc (.ListComp elt gens scope pos)=some c) (hgo:PG X (.Name x pos') (gName i))
  (hsw:swapsWith (.ListComp elt gens scope pos) (some (.Name x pos')) spos.line X.env=pure true),PS X (.Assign [.Name x pos'] (.ListComp elt gens scope pos) spos) (tAsg (tOf X.K c) (gName i))
 | 0,_,_,_,_,_,_,_,_,_,q,_,_=>by cases q
 | n+1,elt,gens,scope,pos,pos',spos,x,c,i,q,hgo,hsw=>by
  obtain ⟨ihE,ihT⟩:=s_all (ar:=ar) (cl:=cl) (k:=k) n
  cases gens with
  | nil=>cases q
  | cons g gs =>
   obtain ⟨tg,iter,ifs,ia⟩:=g
   cases gs with
   | cons _ _=>cases q
   | nil =>
    change (if ia=0 then cCompr sc (cIter sc ar (cE ar cl n sc) tg iter) (cE ar cl n) (cT ar cl n) tg elt ifs scope else none)=some c at q
    split at q
    ·rename_i hz
     subst hz
     exact s_comprU h hgo hsw q (fun ci e=>s_iter h (ihE X sc h) e) (fun X' sc' h'=>ihE X' sc' h') (fun X' sc' h'=>ihT X' sc' h')
    ·cases q
theorem swaps_comp {elt:Expr}{gens:List Comprehension}{scope:Scope}{pos pos':Pos}{x:Str}{line:Nat}{env:Env}:∃ b:Bool,swapsWith (.ListComp elt gens scope pos) (some (.Name x pos')) line env=pure b:=⟨_,rfl⟩
inductive CB (tg e:Expr):Prop
 | no (h:∀ n env,swapsWith e (some tg) n env=pure false)
 | yes (x:Str) (pos':Pos) (elt:Expr) (gens:List Comprehension) (scope:Scope) (pos:Pos) (h1:tg=.Name x pos') (h2:e=.ListComp elt gens scope pos)
theorem CB.of {tg e:Expr} (h:isComp e=false):CB tg e:=.no fun _ _=>swaps_no h
theorem compBad_or {tg e:Expr} (h:compBad tg e=false):CB tg e:=by
 cases tg with
 | Name x pos' =>
  cases e with
  | ListComp elt gens scope pos=>exact .yes x pos' elt gens scope pos rfl rfl
  | _=>exact .of h
 | Tuple es k pos =>
  cases e with
  | ListComp elt gens scope pos=>exact .no fun _ _=>rfl
  | _=>exact .of h
 | _=>exact .of h
noncomputable def isLst:Expr→Bool
 | .List _ _=>true
 | _=>false
theorem swapped_no {tg e:Expr}{env:Env} (h:(isTuple tg&&isTuple e)=false) (hl:isLst tg=false):swappedStores [tg] e env=pure none:=by
 cases tg with
 | Tuple es n pos=>cases e <;> first | rfl | cases h
 | List es pos=>cases hl
 | _=>rfl
noncomputable def tupCell (sc:Sc):Expr→Bool
 | .Tuple [.Name x _,.Name y _] _ _=>sc.names.lookup x == some .cell||sc.names.lookup y == some .cell
 | .Tuple [.Subscript _ _ _,.Subscript _ _ _] _ _=>true
 | _=>false
theorem tupCell_inv {tg:Expr} (h:tupCell sc tg=true):(∃ x px y py k pos,tg=.Tuple [.Name x px,.Name y py] k pos∧(sc.names.lookup x=some .cell∨sc.names.lookup y=some .cell))∨∃ a b p c d q k pos,tg=.Tuple [.Subscript a b p,.Subscript c d q] k pos:=by
 unfold tupCell at h
 split at h
 ·rename_i x px y py k pos
  simp only [Bool.or_eq_true,beq_iff_eq] at h
  exact .inl ⟨x,px,y,py,k,pos,rfl,h⟩
 ·exact .inr ⟨_,_,_,_,_,_,_,_,rfl⟩
 ·cases h
theorem swapped_subs {a b c d:Expr}{p q pos pos2:Pos}{k k2:Nat}{vs:List Expr}{env:Env}:swappedStores [.Tuple [.Subscript a b p,.Subscript c d q] k pos] (.Tuple vs k2 pos2) env=pure none:=by
 unfold swappedStores
 simp only [pure_bind]
 split
 ·rfl
 ·split
  ·rfl
  ·rw [if_pos]
   rfl
theorem swapped_cell {x y:Str}{px py pos pos2:Pos}{k k2:Nat}{vs:List Expr}{env:Env} (h:env.scope.names.lookup x=some .cell∨env.scope.names.lookup y=some .cell):swappedStores [.Tuple [.Name x px,.Name y py] k pos] (.Tuple vs k2 pos2) env=pure none:=by
 have hn:(([Expr.Name x px,Expr.Name y py].filterMap fun e=>match e with
  | .Name id p=>if (env.kindOf id == some NameKind.local&&p.line == (([Expr.Name x px,Expr.Name y py].head?.map (·.pos.line)).getD 0))=true then some id else none
  | _=>none).length != 2)=true:=by
  have kx:env.kindOf x=env.scope.names.lookup x:=rfl
  have ky:env.kindOf y=env.scope.names.lookup y:=rfl
  have hc:(some NameKind.cell == some NameKind.local)=false:=by decide
  rcases h with h | h
  ·simp only [List.filterMap_cons,List.filterMap_nil,kx,h,hc,Bool.false_and,Bool.false_eq_true,if_false]
   split <;> rfl
  ·simp only [List.filterMap_cons,List.filterMap_nil,ky,h,hc,Bool.false_and,Bool.false_eq_true,if_false]
   split <;> rfl
 unfold swappedStores
 simp only [pure_bind]
 split
 ·rfl
 ·split
  ·rfl
  ·rw [if_pos]
   show (_||_)=true
   rw [Bool.or_eq_true]
   exact .inl hn
theorem swapped_no2 (h:XOk X sc ar cl k) {tg e:Expr} (c2:(isTuple tg&&isTuple e&&!tupCell sc tg)=false) (c3:isLst tg=false):swappedStores [tg] e X.env=pure none:=by
 cases hc:tupCell sc tg with
 | false =>
  rw [hc] at c2
  exact swapped_no (by simpa using c2) c3
 | true =>
  cases he:isTuple e with
  | false=>exact swapped_no (by rw [he]; simp) c3
  | true =>
   obtain ⟨vs,k2,pt2,rfl⟩:=is_tup he
   rcases tupCell_inv hc with ⟨x,px,y,py,kk,pos,rfl,hxy⟩ | ⟨_,_,_,_,_,_,_,_,rfl⟩
   ·exact swapped_cell (hxy.imp (h.cel x) (h.cel y))
   ·exact swapped_subs
noncomputable def parIn (sc:Sc) (t v:Expr × Expr) (n:Str × Str):Option (Nat × Nat × Expr × Expr) :=
 if n.1≠n.2∧sc.names.lookup n.1=some .local∧sc.names.lookup n.2=some .local∧t.1.pos.line=t.2.pos.line∧notStar v.1=true∧notStar v.2=true∧([v.1,v.2].all (foldedForSure 8))=false∧([v.1,v.2].all (constantsAlone 8))=false then
  (slotOf sc.N n.1 0).bind fun i=>(slotOf sc.N n.2 0).map fun j=>(i,j,v.1,v.2)
 else none
noncomputable def raiseOf (sc:Sc):Option Expr→Option Expr→Option Str
 | some (.Call (.Name x _) [.Constant (.str _) _ _] [] _),none=>if sc.names.lookup x=some .globalImplicit∧x∈excL∧(x == ("__debug__":Str))=false then some x else none
 | _,_=>none
theorem s_raise (h:XOk X sc ar cl k) {a b:Option Expr}{x:Str}{pos:Pos} (e:raiseOf sc a b=some x):PS X (.Raise a b pos) (tOfS X (sRaise x)):=by
 unfold raiseOf at e
 split at e
 ·split at e
  ·rename_i hc
   cases e
   exact ss_raise h.calm (h.gl _ hc.1) (h.exc _ hc.2.1) hc.2.2
  ·cases e
 ·cases e
noncomputable def rzOf (sc:Sc) (ar:Str→Option Nat):Expr→Option (Str × List Expr)
 | .Call (.Name g _) args [] _=>if g∈rzL∧sc.names.lookup g=some .globalImplicit∧ar g=some args.length∧args≠[]∧(g == ("__debug__":Str))=false then some (g,args) else none
 | _=>none
theorem s_rz (h:XOk X sc ar cl k) {f:Expr→Option C} (hf:Keeps X f) {e:Expr}{g:Str}{args:List Expr}{cs:List C} (hz:rzOf sc ar e=some (g,args)) (e1:cArgs? f args=some cs):PE X e (tOfX X (cAppX (cl g) (cArgs cs))):=by
 unfold rzOf at hz
 split at hz
 ·split at hz
  ·rename_i hc
   obtain ⟨_,c5,c6,c7,c8⟩:=hc
   cases hz
   obtain ⟨h1,h2⟩:=s_args hf e1
   obtain ⟨⟨ps,Ca⟩,hlen⟩:=h.fns g _ c6
   cases args with
   | nil=>exact absurd rfl c7
   | cons a es=>exact (pe_callX Ca h.room (h.gl g c5) ex_passes h1 (Nat.le_refl _) c8 (star_cons (h2 a (by simp))) (noStar_any fun b hb=>h2 b (by simp [hb]))).weak (of_callX2 hlen)
  ·cases hz
 ·cases hz
noncomputable def cIfX (t:CT) (a b:C):C:=fun ρ S=>match t ρ S with
 | .ok k S1=>if k then a ρ S1 else b ρ S1
 | _=>.bad
theorem se_ifX {t a b:Expr}{pos:Pos}{ct:CT}{ca cb:C} (ht:PT X t (tOfT X.K ct)) (ha:PE X a (tOfX X ca)) (hb:PE X b (tOfX X cb)):PE X (.IfExp t a b pos) (tOfX X (cIfX ct ca cb)):=(pe_ifExp ht ha hb).weak (by
 rintro σ H Q ⟨μ,ρ,S,sr,re,y⟩
 unfold cIfX at y
 cases h:ct ρ S with
 | bad=>rw [h] at y; exact y.elim
 | er _ _=>rw [h] at y; exact y.elim
 | ok k S1 =>
  rw [h] at y
  refine ⟨μ,ρ,S,k,S1,sr,re,h,fun H1 μ1 sr1 st1=>?_⟩
  dsimp only at y
  cases k with
  | true =>
   rw [if_pos rfl] at y ⊢
   refine ⟨μ1,ρ,S1,sr1,re.up st1,?_⟩
   revert y
   cases ca ρ S1 with
   | ok d S'=>exact fun y=>Yld.shift y st1
   | bad=>exact fun y=>y
   | er c S'=>exact fun y=>YldE.shift y st1
  | false =>
   rw [if_neg Bool.false_ne_true] at y ⊢
   refine ⟨μ1,ρ,S1,sr1,re.up st1,?_⟩
   revert y
   cases cb ρ S1 with
   | ok d S'=>exact fun y=>Yld.shift y st1
   | bad=>exact fun y=>y
   | er c S'=>exact fun y=>YldE.shift y st1)
noncomputable def sAsgX (c:C) (g:G):CS:=fun ρ S=>match c ρ S with
 | .ok d S'=>match g d ρ S' with
  | .ok ρ' S2=>.nx ρ' S2
  | _=>.bad
 | .bad=>.bad
 | .er k S'=>.er k S'
theorem ss_asgX {tg e:Expr}{pos:Pos}{ce:C}{g:G} (he:PE X e (tOfX X ce)) (hg:PG X tg (tOfG X.K g)) (hs:swapsWithSole [tg] e pos.line X.env=pure false) (hw:swappedStores [tg] e X.env=pure none) (h1:(assignEach [tg] X.env).map (·.2)=[assign tg X.env]):PS X (.Assign [tg] e pos) (tOfS X (sAsgX ce g)):=(ps_asg he hg hs hw h1).weak (by
 rintro E σ H ⟨μ,ρ,S,sr,re,p⟩
 refine ⟨μ,ρ,S,sr,re,?_⟩
 unfold sAsgX at p
 revert p
 cases ce ρ S with
 | bad=>exact fun p=>p
 | er k S'=>exact fun p=>p
 | ok d S' =>
  dsimp only
  cases h2:g d ρ S' with
  | bad=>exact fun p=>False.elim p
  | er _ _=>exact fun p=>False.elim p
  | ok ρ' S2=>exact fun p v H1 μ1 sr1 st1 r1=>⟨μ1,ρ,S',d,ρ',S2,sr1,re.up st1,r1,h2,fun σ2 H2 μ2 sr2 st2 re2=>p σ2 H2 μ2 sr2 (st1.trans st2 sr2.nd) re2⟩)
noncomputable def cX (ar:Str→Option Nat) (cl:Str→List D→M D) (n:Nat) (sc:Sc) (e:Expr):Option C:=match rzOf sc ar e with
 | some (g,args)=>(cArgs? (cE ar cl n sc) args).map fun cs=>cAppX (cl g) (cArgs cs)
 | none=>match e with
  | .IfExp t a b _=>(rzOf sc ar a).bind fun p=>(rzOf sc ar b).bind fun q=>(cT ar cl n sc t).bind fun ct=>(cArgs? (cE ar cl n sc) p.2).bind fun ca=>(cArgs? (cE ar cl n sc) q.2).map fun cb=>cIfX ct (cAppX (cl p.1) (cArgs ca)) (cAppX (cl q.1) (cArgs cb))
  | _=>none
theorem rz_comp {e:Expr}{p:Str × List Expr} (h:rzOf sc ar e=some p):isComp e=false:=by
 unfold rzOf at h
 split at h
 ·rfl
 ·cases h
theorem s_cX (h:XOk X sc ar cl k) {n:Nat} (hf:Keeps X (cE ar cl n sc)) (ht:KeepsT X (cT ar cl n sc)) {e:Expr}{c:C} (q:cX ar cl n sc e=some c):PE X e (tOfX X c)∧isComp e=false:=by
 unfold cX at q
 split at q
 ·rename_i g args hz
  obtain ⟨cs,e1,q1⟩:=Option.map_eq_some_iff.mp q
  subst q1
  exact ⟨s_rz h hf hz e1,rz_comp hz⟩
 ·split at q
  ·obtain ⟨p,z1,q⟩:=Option.bind_eq_some_iff.mp q
   obtain ⟨p',z2,q⟩:=Option.bind_eq_some_iff.mp q
   obtain ⟨ct,z3,q⟩:=Option.bind_eq_some_iff.mp q
   obtain ⟨ca,z4,q⟩:=Option.bind_eq_some_iff.mp q
   obtain ⟨cb,z5,q⟩:=Option.map_eq_some_iff.mp q
   subst q
   obtain ⟨g,as⟩:=p
   obtain ⟨g',bs⟩:=p'
   exact ⟨se_ifX (ht _ _ z3) (s_rz h hf z1 z4) (s_rz h hf z2 z5),rfl⟩
  ·cases q
noncomputable def wfuel:Nat:=100000
section
variable (ar:Str→Option Nat) (cl:Str→List D→M D)
mutual
noncomputable def cSt:Nat→Sc→Stmt→Option CS
 | 0,_,_=>none
 | n+1,sc,s=>match s with
  | .Return v _=>match v with
   | none=>some sRetN
   | some e=>match cX ar cl n sc e with
    | some c=>some (sRetX c)
    | none=>(cE ar cl n sc e).map fun c=>sRet c
  | .Expr e _=>if isComp e then none else match cX ar cl n sc e with
   | some c=>some (sExprX c)
   | none=>(cE ar cl n sc e).map fun c=>sExpr c
  | .Assign tgs e _=>match tgs with
   | [tg] =>
    if compBad tg e||(isTuple tg&&isTuple e&&!tupCell sc tg)||isLst tg||!notStar tg then none else match cX ar cl n sc e with
     | some c=>(cG ar cl n sc tg).map fun g=>sAsgX c g
     | none=>(cE ar cl n sc e).bind fun c=>(cG ar cl n sc tg).map fun g=>sAsg c g
   | _=>none
  | .If t a b _=>(cT ar cl n sc t).bind fun ct=>(cSts n sc a).bind fun ca=>(cSts n sc b).map fun cb=>sIf ct ca cb
  | .For tg it body els _=>match els with
   | []=>(cIter sc ar (cE ar cl n sc) tg it).bind fun ci=>(cG ar cl n sc tg).bind fun g=>(cSts n sc body).map fun cb=>sFor ci g cb
   | _::_=>none
  | .While t body els _=>match els with
   | []=>(cT ar cl n sc t).bind fun ct=>(cSts n sc body).map fun cb=>whileS wfuel ct cb
   | _::_=>none
  | .Pass _=>some sPass
  | .Break _=>some sBrk
  | .Continue _=>some sCnt
  | .Raise a b _=>match raiseOf sc a b with
   | some x=>some (sRaise x)
   | none=>some sBad
  | _=>none
noncomputable def cSts:Nat→Sc→List Stmt→Option CS
 | 0,_,_=>none
 | n+1,sc,ss=>match ss with
  | []=>some sPass
  | s::r=>(cSt n sc s).bind fun c=>(cSts n sc r).map fun d=>sSeq c d
end
end
inductive ParE (sc:Sc) (tg e:Expr) (r:Nat × Nat × Expr × Expr):Prop
 | mk (x y:Str) (px py pt pt2:Pos) (kt k2:Nat) (v1 v2:Expr) (h1:tg=.Tuple [.Name x px,.Name y py] kt pt) (h2:e=.Tuple [v1,v2] k2 pt2) (hp:parIn sc (.Name x px,.Name y py) (v1,v2) (x,y)=some r)
theorem pass_no (h:XOk X sc ar cl k):PassesOwn (model X.prog X.w) X.A X.env X.xe:=h.own
theorem s_St:∀ n:Nat,(∀ X sc,XOk X sc ar cl k→∀ s c,cSt ar cl n sc s=some c→PS X s (tOfS X c))∧(∀ X sc,XOk X sc ar cl k→∀ s c,cSts ar cl n sc s=some c→PSs X s (tOfS X c))
 | 0=>⟨fun X sc h e c q=>(by cases q),fun X sc h e c q=>(by cases q)⟩
 | n+1=>by
  obtain ⟨ih,ihs⟩:=s_St n
  refine ⟨fun X sc h s c q=>?_,fun X sc h ss c q=>?_⟩
  ·have hf:=(s_all (ar:=ar) (cl:=cl) (k:=k) n).1 X sc h
   have ht:=(s_all (ar:=ar) (cl:=cl) (k:=k) n).2 X sc h
   have hg:=(s_G (ar:=ar) (cl:=cl) (k:=k) n).1 X sc h
   cases s with
   | Return v pos =>
    cases v with
    | none=>cases q; exact ss_retN
    | some e =>
     change (match cX ar cl n sc e with | some c=>some (sRetX c) | none=>(cE ar cl n sc e).map fun c=>sRet c)=some c at q
     split at q
     ·rename_i c' hz
      cases q
      exact ss_retX (s_cX h hf ht hz).1
     obtain ⟨ce,e1,q1⟩:=Option.map_eq_some_iff.mp q
     subst q1
     exact ss_ret (hf _ _ e1)
   | Expr e pos =>
    change (if isComp e=true then none else match cX ar cl n sc e with | some c=>some (sExprX c) | none=>(cE ar cl n sc e).map fun c=>sExpr c)=some c at q
    split at q
    ·cases q
    ·rename_i hc
     split at q
     ·rename_i c' hz
      cases q
      exact ss_exprX (s_cX h hf ht hz).1 (swaps_no (by simpa using hc))
     obtain ⟨ce,e1,q1⟩:=Option.map_eq_some_iff.mp q
     subst q1
     exact ss_expr (hf _ _ e1) (swaps_no (by simpa using hc))
   | Assign tgs e pos =>
    cases tgs with
    | nil=>cases q
    | cons tg r =>
     cases r with
     | cons _ _=>cases q
     | nil =>
      change (if compBad tg e||(isTuple tg&&isTuple e&&!tupCell sc tg)||isLst tg||!notStar tg then none else match cX ar cl n sc e with | some c=>(cG ar cl n sc tg).map fun g=>sAsgX c g | none=>(cE ar cl n sc e).bind fun c=>(cG ar cl n sc tg).map fun g=>sAsg c g)=some c at q
      split at q
      ·cases q
      ·rename_i hc
       simp only [Bool.or_eq_true,not_or,Bool.not_eq_true,Bool.not_eq_true',Bool.not_eq_false] at hc
       obtain ⟨⟨⟨c1,c2⟩,c3⟩,c4⟩:=hc
       split at q
       ·rename_i c' hz
        obtain ⟨g,e2,q2⟩:=Option.map_eq_some_iff.mp q
        subst q2
        obtain ⟨z1,z2⟩:=s_cX h hf ht hz
        rcases compBad_or c1 with c1 | ⟨x,px,elt,gens,scope,pc,rfl,rfl⟩
        ·exact ss_asgX z1 (hg _ _ e2) (c1 _ _) (swapped_no2 h c2 c3) (by rw [assignEach_cons (by simpa using c4)]; rfl)
        ·cases z2
       obtain ⟨ce,e1,q1⟩:=Option.bind_eq_some_iff.mp q
       obtain ⟨g,e2,q2⟩:=Option.map_eq_some_iff.mp q1
       subst q2
       rcases compBad_or c1 with c1 | ⟨x,px,elt,gens,scope,pc,rfl,rfl⟩
       ·refine ss_asg (hf _ _ e1) (hg _ _ e2) (c1 _ _) (swapped_no2 h c2 c3) ?_
        rw [assignEach_cons (by simpa using c4)]; rfl
       ·obtain ⟨b,hb⟩:=swaps_comp (elt:=elt) (gens:=gens) (scope:=scope) (pos:=pc) (pos':=px) (x:=x) (line:=pos.line) (env:=X.env)
        cases b with
        | false=>exact ss_asg (hf _ _ e1) (hg _ _ e2) hb (swapped_no2 h c2 c3) (by rw [assignEach_cons (by simpa using c4)]; rfl)
        | true =>
         cases n with
         | zero=>cases e2
         | succ n =>
          obtain ⟨i,rfl,h1,h2,h3⟩:=s_tg h e2
          exact ss_set (s_compSet h e1 (pg_name h.nd' h1 h2 h3) hb)
   | If t a b pos =>
    obtain ⟨ct,e0,q1⟩:=Option.bind_eq_some_iff.mp q
    obtain ⟨ca,e1,q2⟩:=Option.bind_eq_some_iff.mp q1
    obtain ⟨cb,e2,q3⟩:=Option.map_eq_some_iff.mp q2
    subst q3
    exact ss_if (ht _ _ e0) (ihs X sc h _ _ e1) (ihs X sc h _ _ e2)
   | For tg it body els pos =>
    cases els with
    | cons _ _=>cases q
    | nil =>
     obtain ⟨ci,e0,q1⟩:=Option.bind_eq_some_iff.mp q
     obtain ⟨g,e1,q2⟩:=Option.bind_eq_some_iff.mp q1
     obtain ⟨cb,e2,q3⟩:=Option.map_eq_some_iff.mp q2
     subst q3
     obtain ⟨i1,i2⟩:=s_iter h hf e0
     exact ss_for (pass_no h) h.calm i1 (hg _ _ e1) (ihs X sc h _ _ e2) (folded_ok i2)
   | While t body els pos =>
    cases els with
    | cons _ _=>cases q
    | nil =>
     obtain ⟨ct,e0,q1⟩:=Option.bind_eq_some_iff.mp q
     obtain ⟨cb,e2,q3⟩:=Option.map_eq_some_iff.mp q1
     subst q3
     exact ss_while wfuel (pass_no h) (ht _ _ e0) (ihs X sc h _ _ e2)
   | Pass pos=>cases q; exact ss_pass
   | Break pos=>cases q; exact ss_brk
   | Continue pos=>cases q; exact ss_cnt
   | Raise a b pos =>
    change (match raiseOf sc a b with | some x=>some (sRaise x) | none=>some sBad)=some c at q
    split at q
    ·rename_i x hx
     cases q
     exact s_raise h hx
    ·cases q; exact ss_bad
   | _=>cases q
  ·cases ss with
   | nil=>cases q; exact sss_nil
   | cons s r =>
    obtain ⟨c1,e1,q1⟩:=Option.bind_eq_some_iff.mp q
    obtain ⟨c2,e2,q2⟩:=Option.map_eq_some_iff.mp q1
    subst q2
    exact sss_cons (ih X sc h _ _ e1) (ihs X sc h _ _ e2)
noncomputable def startE (n:Nat) (ds:List D):Env1:=ds.map some++List.replicate (n - ds.length) none
noncomputable def runF (np nN:Nat) (b:CS):List D→M D:=fun ds S=>if ds.length=np then (match b (startE nN ds) S with
 | .nx _ S'=>.ok .non S'
 | .rt d S'=>.ok d S'
 | .er c S'=>.er c S'
 | _=>.bad) else .bad
theorem RVs.begins {K:W.Frag}{H:Hp}{μ:List Addr}{N:List Str}{ds:List D}{vs:List V} (r:RVs K H μ ds vs):RE K H μ (startE N.length ds) (start N vs):=by
 unfold startE start
 refine ⟨by simp [r.len],fun i d e=>?_⟩
 by_cases hi:i<ds.length
 ·rw [List.getElem?_append_left (by simpa using hi),List.getElem?_map] at e
  rw [List.getElem?_append_left (by rw [List.length_map,← r.len]; exact hi),List.getElem?_map]
  cases q:ds[i]? with
  | none=>rw [q] at e; cases e
  | some d' =>
   rw [q] at e; cases e
   obtain ⟨v,e1,e2⟩:=r.get q
   exact ⟨v,by rw [e1]; rfl,e2⟩
 ·rw [List.getElem?_append_right (by simpa using hi),List.getElem?_replicate] at e
  split at e <;> cases e
noncomputable def fnOk (N ps:List Str) (scope:Scope):Bool :=
 decide (scope.kind=.function)&&!scope.isCoroutine&&!scope.isGenerator&&decide N.Nodup&&decide (N.take ps.length=ps)&&ps.all (fun x=>scope.names.lookup x == some .local||scope.names.lookup x == some .cell)&&scope.names.all (fun y=>y.2 != .free)
theorem fnOk_scope {N ps:List Str}{scope:Scope} (h:fnOk N ps scope=true):FnScope N ps scope:=by
 unfold fnOk at h
 simp only [Bool.and_eq_true,decide_eq_true_eq,Bool.not_eq_true'] at h
 obtain ⟨⟨⟨⟨⟨⟨c1,c2⟩,c3⟩,c4⟩,c5⟩,c6⟩,c7⟩:=h
 refine ⟨c1,c2,c3,c4,c5,fun x hx=>?_,fun y hy=>?_⟩
 ·have:=List.all_eq_true.mp c6 x hx
  simpa using this
 ·have:=List.all_eq_true.mp c7 y hy
  simpa using this
inductive LamF (K:W.Frag) (mg:Str→Option Value) (base:Heap) (fd:FuncData) (x:Str):Prop
 | mk (c T:Addr) (tab:W.tabIn K x=some (c,T)) (code:fd.code=.ref c) (hd:W.CodeHd base c T) (blt:base.BuiltinsAt mg T) (ne:mainGlobals≠T)
def RefH (P:Program) (w:World) (K:W.Frag) (mg:Str→Option Value) (base:Heap):Prop:=(∀ t∈rfN,RefIn P w K mg base t 4 rfB)∧exAll K=true∧(∀ c∈xoL,∃ C,mg c=some (.ref C)∧exG K c=some C)∧mg "ValueError"=none
theorem Fun.okX {CX:CXT}{P:Program}{w:World}{K:W.Frag}{mg:Str→Option Value}{base:Heap}{x qual:Str}{st:Stmt}{f:Addr}{fd:FuncData}{N ps:List Str}{k:Nat}{sp:Sp} (F:Fun K x qual st f fd) (S:FnScope N ps (defScope st)) (len:∀ vs H Q E,sp vs H Q E→vs.length=ps.length)
  (hbody:∀ (cdv:Value) (A:Around) (outer:List Env) (s:Shared) (H:Hp) (vs:List V) (Q:VK) (E:XK),fd.code=cdv→Room k (A.deeper (envOfC qual (defScope st) s.heap.objs.size f cdv))→sp vs H Q E →
   ∃ t,PSs (cxOf CX P w K mg base N qual (defScope st) f cdv A outer s H E) (defBody st) t∧t { nx:=fun _ H'=>Q .non H',rt:=Q } (start N vs) H):FnOk P w K mg base CX (k+1) f fd ps sp:=by
 obtain ⟨oc,od,kV,doc,pm,an,cdv,ct,osl,rfl,lk,hcd⟩:=F.ex
 exact fn_of lk hcd S len fun A outer s H vs Q E hr hsp=>hbody cdv A outer s H vs Q E rfl hr hsp
theorem s_fn {P:Program}{w:World}{K:W.Frag}{mg:Str→Option Value}{base:Heap}{x:Str}{st:Stmt}{fa:Addr}{fd:FuncData}{N ps:List Str}{fuel:Nat}{b:CS} (F:Fun K x x st fa fd)
  (hs:fnOk N ps (defScope st)=true) (hc:cSts ar cl fuel ⟨N,(defScope st).names,some x⟩ (defBody st)=some b)
  (hB:MgOk ar mg) (hX:∀ x∈excL,∃ C,mg x=some (.ref C)∧ExcK K C)
  (hL:x=lamD→LamF K mg base fd x) (hT:∀ t ws,tkL.lookup t=some ws→TakerIn K mg t ws)
  (hR:RefH P w K mg base)
  (ih:∀ y n,ar y=some n→(∃ ps,CalleeX P w K mg base y ps (3*k) (spOfX K mg (cl y) n))∧∀ ds S,cl y ds S≠.bad→ds.length=n):FnOk P w K mg base (CX1 P w) (3*k+2+1) fa fd ps (spOfX K mg (runF ps.length N.length b) ps.length):=by
 have S:=fnOk_scope hs
 refine F.okX (k:=3*k+2) S (fun vs H Q E h=>h.1) (fun cdv A outer s H vs Q E hcd hr h=>?_)
 obtain ⟨hl,μ,ds,S0,sr,rv,y⟩:=h
 have o:Own1 (cxOf (CX1 P w) P w K mg base N x (defScope st) fa cdv A outer s H E) E:=⟨rfl,rfl,rfl,rfl⟩
 have hX:XOk (cxOf (CX1 P w) P w K mg base N x (defScope st) fa cdv A outer s H E) ⟨N,(defScope st).names,some x⟩ ar cl k:={
  calm:=rfl
  N:=rfl
  nd:=S.nd
  gl:=fun x hx=>hx
  loc:=fun x hx=>hx
  cel:=fun x hx=>hx
  fre:=fun x hx=>.inr hx
  fnn:=fun _ x=>rfl
  room:=hr.mono (by omega)
  roomT:=fun _=>hr
  lam:=fun z=>by
   have z':x=lamD:=Option.some.inj z
   obtain ⟨c,T,t1,t2,t3,t4,t5⟩:=hL z'
   rw [← z']
   exact ⟨c,T,t1,hcd.symm.trans t2,rfl,t3,t4,t5⟩
  tk:=fun _=>hT
  rf:=fun _=>hR.1
  xk:=hR.2.1
  xm:=hR.2.2.1
  xv:=hR.2.2.2
  own:=PassesOwn.leaving
  exc:=hX
  blt:=hB
  fns:=ih }
 refine ⟨_,(s_St fuel).2 _ _ hX _ _ hc,μ,startE N.length ds,S0,sr,rv.begins,?_⟩
 unfold runF at y
 rw [if_pos (rv.len.trans hl)] at y
 revert y
 cases b (startE N.length ds) S0 with
 | nx ρ S2=>exact fun y σ' H' μ' sr' st' re'=>y _ H' μ' sr' st' rv_non
 | rt d' S2=>exact fun y=>y
 | er c S2=>exact fun y H' μ' sr' st' C hm=>ex_own o (y H' μ' sr' st' C hm)
 | bad=>exact fun y=>y
 | bk _ _=>exact fun y=>False.elim y
 | ct _ _=>exact fun y=>False.elim y
theorem s_def {P:Program}{w:World}{K:W.Frag}{mg:Str→Option Value}{base:Heap}{x:Str}{st:Stmt}{fa:Addr}{fd:FuncData}{N ps:List Str}{fuel:Nat}{b:CS} (F:Fun K x x st fa fd) (m:mg x=some (.ref fa)) (hb:Binds K fd ps [])
  (hs:fnOk N ps (defScope st)=true) (hc:cSts ar cl fuel ⟨N,(defScope st).names,some x⟩ (defBody st)=some b)
  (hB:MgOk ar mg) (hX:∀ x∈excL,∃ C,mg x=some (.ref C)∧ExcK K C)
  (hL:x=lamD→LamF K mg base fd x) (hT:∀ t ws,tkL.lookup t=some ws→TakerIn K mg t ws)
  (hR:RefH P w K mg base)
  (ih:∀ y n,ar y=some n→(∃ ps,CalleeX P w K mg base y ps (3*k) (spOfX K mg (cl y) n))∧∀ ds S,cl y ds S≠.bad→ds.length=n):CalleeX P w K mg base x ps (3*(k+1)) (spOfX K mg (runF ps.length N.length b) ps.length) :=
 ⟨fa,fd,s_fn F hs hc hB hX hL hT hR ih,hb,F.kp,m⟩
end
open PySem PySem.Spec PyProof.Rows
noncomputable abbrev CLL:=Str→List D→M D
noncomputable abbrev Tbl:=List (Str × (Nat × Nat × (CLL→CS)))
noncomputable def arT (tbl:Tbl) (x:Str):Option Nat:=(tbl.lookup x).map (·.1)
noncomputable def callT (tbl:Tbl):Nat→CLL
 | 0,_=>fun _ _=>.bad
 | n+1,x=>match tbl.lookup x with
  | some p=>runF p.1 p.2.1 (p.2.2 (callT tbl n))
  | none=>fun _ _=>.bad
structure DefIn (K:W.Frag) (mg:Str→Option Value) (ar:Str→Option Nat) (x:Str) (p:Nat × Nat × (CLL→CS)):Prop where
 ex:∃ (st:Stmt) (fa:Addr) (fd:FuncData) (N ps:List Str) (fuel:Nat),Fun K x x st fa fd∧mg x=some (.ref fa)∧Binds K fd ps []∧fnOk N ps (defScope st)=true∧ps.length=p.1∧N.length=p.2.1 ∧
  ∀ cl:CLL,cSts ar cl fuel ⟨N,(defScope st).names,some x⟩ (defBody st)=some (p.2.2 cl)
theorem lookup_mem {α:Type}{tbl:List (Str × α)}{x:Str}{p:α} (h:tbl.lookup x=some p):(x,p)∈tbl:=by
 induction tbl with
 | nil=>cases h
 | cons y r ih =>
  obtain ⟨y1,y2⟩:=y
  rw [List.lookup_cons] at h
  split at h
  ·rename_i e
   cases h
   have:x=y1:=by simpa using e
   subst this
   simp
  ·exact List.mem_cons_of_mem _ (ih h)
theorem runF_len2 {np nN:Nat}{b:CS}{ds:List D}{S:Store} (h:runF np nN b ds S≠.bad):ds.length=np:=by
 unfold runF at h
 split at h
 ·assumption
 ·exact absurd rfl h
theorem tbl_ok {P:Program}{w:World}{K:W.Frag}{mg:Str→Option Value}{base:Heap}{tbl:Tbl} (hd:∀ x p,tbl.lookup x=some p→DefIn K mg (arT tbl) x p) (hB:MgOk (arT tbl) mg) (hX:∀ x∈excL,∃ C,mg x=some (.ref C)∧ExcK K C)
  (hL:∀ x st fa fd,Fun K x x st fa fd→mg x=some (.ref fa)→x=lamD→LamF K mg base fd x) (hT:∀ t ws,tkL.lookup t=some ws→TakerIn K mg t ws)
  (hR:RefH P w K mg base)
  :
  ∀ (k:Nat) (x:Str) (n:Nat),arT tbl x=some n→(∃ ps,CalleeX P w K mg base x ps (3*k) (spOfX K mg (callT tbl k x) n))∧∀ ds S,callT tbl k x ds S≠.bad→ds.length=n
 | 0,x,n,h=>by
  obtain ⟨p,hp,rfl⟩:=Option.map_eq_some_iff.mp h
  obtain ⟨st,fa,fd,N,ps,fuel,F,m,hb,_⟩:=(hd x p hp).ex
  have no:∀ vs H Q E,¬ spOfX K mg (callT tbl 0 x) p.1 vs H Q E:=fun vs H Q E h=>by
   obtain ⟨_,μ,ds,S,_,_,y⟩:=h
   exact y
  exact ⟨⟨ps,fa,fd,⟨fun vs H Q E h=>(no _ _ _ _ h).elim,fun A outer s H args us vs Q E _ _ _ _ h=>(no _ _ _ _ h).elim⟩,hb,F.kp,m⟩,fun ds S e=>absurd rfl e⟩
 | k+1,x,n,h=>by
  obtain ⟨p,hp,rfl⟩:=Option.map_eq_some_iff.mp h
  obtain ⟨st,fa,fd,N,ps,fuel,F,m,hb,hs,e1,e2,hc⟩:=(hd x p hp).ex
  have ih:=tbl_ok (P:=P) (w:=w) (base:=base) hd hB hX hL hT hR k
  have q:=s_def (P:=P) (w:=w) (base:=base) (k:=k) F m hb hs (hc (callT tbl k)) hB hX (hL x st fa fd F m) hT hR ih
  have e3:callT tbl (k+1) x=runF p.1 p.2.1 (p.2.2 (callT tbl k)):=by
   show (match tbl.lookup x with | some p=>runF p.1 p.2.1 (p.2.2 (callT tbl k)) | none=>fun _ _=>.bad)=_
   rw [hp]
  rw [e1,e2] at q
  rw [e3]
  exact ⟨⟨ps,q⟩,fun ds S e=>runF_len2 e⟩
noncomputable def spL (K:W.Frag):Sp:=fun vs H Q _=>∃ (a:Addr) (ns:List Int) (T c:Addr),vs=[.ref a]∧SqF K H a (ns.map V.int)∧ns.length≤63∧H T=some (.tbl #[])∧W.tabIn K lamD=some (c,T)∧∀ H',Q (.bl true) H'
theorem law_ok {P:Program}{w:World}{K:W.Frag}{mg:Str→Option Value}{base:Heap}{tbl:Tbl}{fa:Addr}{fd:FuncData}{st:Stmt}{L nN fuel:Nat}{N:List Str}{b:CLL→CS} (hd:∀ x p,tbl.lookup x=some p→DefIn K mg (arT tbl) x p) (hB:MgOk (arT tbl) mg) (hX:∀ x∈excL,∃ C,mg x=some (.ref C)∧ExcK K C)
  (hL:∀ x st fa fd,Fun K x x st fa fd→mg x=some (.ref fa)→x=lamD→LamF K mg base fd x) (hT:∀ t ws,tkL.lookup t=some ws→TakerIn K mg t ws) (hm:mg "law"=some (.ref fa))
  (hR:RefH P w K mg base)
  (hl:tbl.lookup ("law":Str)=some (1,nN,b)) (F:Fun K "law" "law" st fa fd) (hs:fnOk N ["_law_script"] (defScope st)=true) (hN:N.length=nN) (hc:∀ cl:CLL,cSts (arT tbl) cl fuel ⟨N,(defScope st).names,some "law"⟩ (defBody st)=some (b cl))
  (hlaw:∀ ns:List Int,ns.length≤63→∃ S',callT tbl (L+1) "law" [.rol (ns.map D.int)] [.tb lamD]=.ok (.bl true) S') :
  FnOk P w K mg base (CX1 P w) (3*(L+1)) fa fd ["_law_script"] (spL K):=by
 have q:=s_fn (P:=P) (w:=w) (base:=base) (k:=L) F hs (hc (callT tbl L)) hB hX (hL "law" st fa fd F hm) hT hR (tbl_ok (P:=P) (w:=w) (base:=base) hd hB hX hL hT hR L)
 refine q.imp fun vs H Q E h=>?_
 obtain ⟨a,ns,T,c,rfl,hS,hn,hT1,hT2,hQ⟩:=h
 obtain ⟨S',e⟩:=hlaw ns hn
 have e3:callT tbl (L+1) "law"=runF 1 nN (b (callT tbl L)):=by
  show (match tbl.lookup ("law":Str) with | some p=>runF p.1 p.2.1 (p.2.2 (callT tbl L)) | none=>fun _ _=>.bad)=_
  rw [hl]
 rw [e3] at e
 refine ⟨rfl,[T],[.rol (ns.map D.int)],[.tb lamD],⟨rfl,by simp,fun n a o h1 h2=>?_⟩,.cons (by unfold RV; exact ⟨a,_,rfl,hS,RVs.ints⟩) .nil,?_⟩
 ·cases n with
  | succ n=>simp at h1
  | zero =>
   simp at h1 h2
   subst h1 h2
   exact ⟨#[],hT1,⟨c,hT2⟩,trivial,fun pos cv z=>by cases z⟩
 rw [hN,show runF (["_law_script"]:List Str).length nN (b (callT tbl L)) [.rol (ns.map D.int)] [.tb lamD]=.ok (.bl true) S' from e]
 refine fun v H' μ' _ _ r=>?_
 unfold RV at r
 subst r
 exact hQ H'
theorem lamF_of {K:W.Frag}{mg:Str→Option Value}{base:Heap}{c T:Addr} (kb:K.In base) (nb:base.Ns mainGlobals mg) (tab:W.tabIn K lamD=some (c,T)) (hd:W.CodeHd base c T) (blt:base.BuiltinsAt mg T) (ne:mainGlobals≠T) :
  ∀ x st fa fd,Fun K x x st fa fd→mg x=some (.ref fa)→x=lamD→LamF K mg base fd x:=fun x st fa fd F m e=>by
 subst e
 obtain ⟨oc,od,kV,doc,pm,an,cdv,ct,osl,e,lk,_⟩:=F.ex
 exact ⟨c,T,tab,W.law_code kb nb tab m (kb _ _ lk) rfl,hd,blt,ne⟩
noncomputable def hH (K:W.Frag) (T a:Addr) (o:Obj) (xs:List V):Hp:=fun b=>if b=T then some (.tbl #[]) else if b=a then (if K.lookup a=none then some (.frz o (.lst xs)) else none) else none
theorem law_callT {P:Program}{w:World}{K:W.Frag}{mg mb:Str→Option Value}{k:Nat}{fa a c T:Addr}{fd:FuncData}{x:Str}{sp:Sp}{s₁:Shared}{vs:List Value}{ns:List Int}
  (KX:K.In s₁.heap) (hns:s₁.heap.Ns mainGlobals mg) (hb:s₁.heap.Ns builtinsNs mb) (hbb:∀ x:Str,x ≠ "__name__"→mb x=bootBuiltins x) (hlim:s₁.heap.NoLimit) (hg:s₁.gens=#[])
  (ha:s₁.heap.get? a=some { cls:=.type "list",data:=.seq vs.toArray }) (hi:IntsAre vs ns) (hl:ns.length≤sizeLine) (hr:Room k callerA)
  (C:W.CodeHd s₁.heap c T) (hT:s₁.heap.get? T=some (W.tabObj #[])) (B:s₁.heap.BuiltinsAt mg T) (nK:K.lookup T=none)
  (F:∀ base:Heap,K.In base→base.Ns mainGlobals mg→W.CodeHd base c T→base.BuiltinsAt mg T→FnOk P w K mg base (CX1 P w) k fa fd [x] sp) (hbind:∀ (s:Shared) (u:Value),BindsTo s fd ⟨[u],[]⟩ [(x,u)])
  (hsp:∀ H:Hp,SqF K H a (ns.map V.int)→H T=some (.tbl #[])→sp [.ref a] H (fun v _=>v=.bl true) fun _ _ _=>False) :
  codeAny (model P w) callerA (.call (.ref fa) ⟨[.ref a],[]⟩) (fun r s'=>r=.ok (.ret (.bool true))∧OldK s₁.heap s'.heap∧s'.os=s₁.os∧AllBare s'.gens) s₁:=by
 have rv:=vals_ints hi
 have lenV:=hi.length
 have aT:a≠T:=fun z=>by rw [z,hT] at ha; cases ha
 obtain ⟨H,hH'⟩:∃ H,hH K T a { cls:=.type "list",data:=.seq vs.toArray } (ns.map V.int)=H:=⟨_,rfl⟩
 have H_T:H T=some (.tbl #[]):=by rw [← hH']; unfold hH; rw [if_pos rfl]
 have H_a:H a=if K.lookup a=none then some (.frz { cls:=.type "list",data:=.seq vs.toArray } (.lst (ns.map V.int))) else none:=by rw [← hH']; unfold hH; rw [if_neg aT,if_pos rfl]
 have H_o:∀ b,b≠T→b≠a→H b=none:=fun b n1 n2=>by rw [← hH']; unfold hH; rw [if_neg n1,if_neg n2]
 have sq:SqF K H a (ns.map V.int):=by
  cases hk:K.lookup a with
  | none=>exact .inl ⟨_,by rw [H_a,if_pos hk]⟩
  | some o =>
   have e:=KX a o hk
   rw [ha] at e
   cases e
   exact .inr ⟨_,vs.toArray,_,hk,rfl,rfl,rfl,by rw [List.size_toArray,lenV]; exact hl,by simpa using rv⟩
 have hok:HOk P w H s₁.heap:=fun b u e=>by
  by_cases n1:b=T
  ·subst n1; rw [H_T] at e; cases e; exact hT
  ·by_cases n2:b=a
   ·subst n2
    rw [H_a] at e
    split at e
    ·cases e
     exact ⟨ha,by rw [List.length_map]; exact hl,vs,_,rv,ha⟩
    ·cases e
   ·rw [H_o b n1 n2] at e; cases e
 have base_of:∀ {b:Addr}{o:Obj},s₁.heap.get? b=some o→H b=none→(hidT s₁.heap H).get? b=some o:=fun e n=>hidT_get e n
 have noA:∀ {b:Addr}{o:Obj},s₁.heap.get? b=some o→b≠T→o.cls≠.type "list"→H b=none:=fun {b o} e n1 n2=>H_o b n1 fun z=>by rw [z,ha] at e; cases e; exact n2 rfl
 have nsK:∀ {b:Addr}{m:Str→Option Value},s₁.heap.Ns b m→(hidT s₁.heap H).Ns b m:=fun {b m} ⟨o,es,ep,e,d,r⟩=>⟨o,es,ep,base_of e (H_o b (fun z=>by rw [z,hT] at e; cases e; cases d) fun z=>by rw [z,ha] at e; cases e; cases d),d,r⟩
 have hKb:K.In (hidT s₁.heap H):=fun b o e=>base_of (KX b o e) (by
  by_cases n1:b=T
  ·rw [n1,nK] at e; cases e
  ·by_cases n2:b=a
   ·subst n2; rw [H_a,if_neg (by rw [e]; exact fun z=>by cases z)]
   ·exact H_o b n1 n2)
 have hM:Mod K mg (hidT s₁.heap H):=⟨hKb,nsK hns,⟨mb,nsK hb,hbb⟩,let ⟨mc,h1,h2⟩:=hlim; ⟨mc,nsK h1,h2⟩⟩
 have e0:Env0 P w K mg (hidT s₁.heap H) callerA [] s₁ H:=⟨rfl,hM,fun b o e=>of_hidT e,Nat.le_of_eq (hidT_size _ _),trivial,fun b hb=>absurd (show b∈([]:List Addr) from hb) (by simp),hok,.of_eq hg⟩
 have C':W.CodeHd (hidT s₁.heap H) c T:=by
  obtain ⟨o,vs',file,tf,flags,tg,inF,text,tt,e1,e2,e3,e4,f3,f4,f5,f6,f7,f11⟩:=C
  exact ⟨o,vs',file,tf,flags,tg,inF,text,tt,base_of e1 (noA e1 f11 (by rw [e2]; exact fun z=>absurd (Value.type.inj z) (by decide))),e2,e3,e4,f3,f4,f5,f6,f7,f11⟩
 have B':(hidT s₁.heap H).BuiltinsAt mg T:=by
  obtain ⟨bm,o,b1,b2,b3,b4,b5,b6,b7,b8⟩:=B
  exact ⟨bm,o,b1,b2,b3,b4,base_of b5 (noA b5 b4 (by rw [b6]; exact fun z=>absurd (Value.type.inj z) (by decide))),b6,b7,b8⟩
 refine codeAny_mono ((F _ hKb (nsK hns) C' B').run callerA [] s₁ H ⟨[.ref a],[]⟩ [.ref a] [.ref a] _ _ hr e0 (hbind s₁ (.ref a)) (.cons rfl .nil) (hsp H sq H_T)) fun r s' h=>?_
 cases r with
 | error e =>
  obtain ⟨_,_,_,_,_,_,_,_,_,_,_,_,_,_,z⟩:=h
  exact z.elim
 | ok fl =>
  cases fl with
  | next=>exact False.elim h
  | brk=>exact False.elim h
  | cont=>exact False.elim h
  | ret u =>
   obtain ⟨v,H',os,bare,un,hok',r',q⟩:=h
   have q':v=.bl true:=q
   subst q'
   obtain rfl:u=Value.bool true:=r'
   have fin:∀ b o,b≠T→s₁.heap.get? b=some o→s'.heap.get? b=some o:=fun b o nb e=>by
    cases q:H b with
    | none=>exact un.keep b o e q (by intro z; exact absurd (show b∈([]:List Addr) from z) (by simp)) (by simp)
    | some u =>
     have nba:b=a:=Classical.byContradiction fun z=>by rw [H_o b nb z] at q; cases q
     subst nba
     rw [H_a] at q
     split at q
     ·rename_i hk
      have z:H b=some (.frz { cls:=.type "list",data:=.seq vs.toArray } (.lst (ns.map V.int))):=by rw [H_a,if_pos hk]
      obtain ⟨e2,_⟩:=hok' b _ (un.frzs b _ _ z)
      rw [ha] at e; cases e
      exact e2
     ·cases q
   obtain ⟨more,hm⟩:=un.tbls T _ H_T
   have hT':s'.heap.get? T=some (W.tabObj (#[]++more)):=hok' T _ hm
   refine ⟨rfl,⟨fun b o e=>?_,fun b o e=>?_⟩,os,bare⟩
   ·by_cases nb:b=T
    ·subst nb
     rw [hT] at e; cases e
     exact .inr (.inl ⟨(C.tab hT).isCodeTable,rfl,#[],more,rfl,hT'⟩)
    ·exact .inl (fin b o nb e)
   ·by_cases nb:b=T
    ·subst nb; exact ⟨_,hT'⟩
    ·exact ⟨o,fin b o nb e⟩
theorem walk_ev {l:W.OpenLaw}{q:Program}{loose:List Str}{XP:(Str→Option Value)→Heap→Prop}{YP:World→Heap→Prop}{d dl:DefRec}{K:Params→W.Frag}{L:Nat} (hn:l.most=some 63) (hdf:d.params.defaults=[]) (hr:Room L callerA)
  (hY:∀ (w:World) (h:Heap),YP w h→(K w.params).In h) (hrec:(PyProof.Rows.recsOf q).find? (fun e=>e.name == lamD)=some dl) (hTb:∀ w:World,∃ c T,W.tabIn (K w.params) lamD=some (c,T)∧(K w.params).lookup T=none)
  (F:∀ (w:World) (mg:Str→Option Value) (fa c T:Addr) (h:Heap),(K w.params).In h→h.Ns mainGlobals mg→mg d.name=some (.ref fa)→W.tabIn (K w.params) lamD=some (c,T) →
   ∃ fd:FuncData,(∀ (s:Shared) (u:Value),BindsTo s fd ⟨[u],[]⟩ [("_law_script",u)])∧∀ base:Heap,(K w.params).In base→base.Ns mainGlobals mg→W.CodeHd base c T→base.BuiltinsAt mg T→mainGlobals≠T→FnOk l.prog w (K w.params) mg base (CX1 l.prog w) L fa fd ["_law_script"] (spL (K w.params))) :
  W.WalkO q loose XP YP l.row.toRowW d [] (fun f vs=>PySem.call f vs):=by
 refine Att.attach_call hn hdf fun w s₀ s₁ mg mb fa o pm cd doc a vs ns G Y ho hd hcd hmg hobj hints hlen hg=>?_
 have KX:=hY w _ Y
 obtain ⟨c,T,tab,nK⟩:=hTb w
 obtain ⟨C,hT⟩:=W.tab_of G.T KX hrec tab
 obtain ⟨bm,ob,b1,b2,b3,b4,b5,b6⟩:=G.T.bmain
 have hgT:mainGlobals≠T:=fun q=>by
  obtain ⟨o,es,ep,e,hd,_⟩:=G.T.g
  rw [q,hT] at e; cases e; cases hd
 have hbT:bm≠T:=fun q=>by
  rw [q,hT] at b3; cases b3; cases b4
 have hbG:bm≠mainGlobals:=fun q=>by
  obtain ⟨o,es,ep,e,hd,_⟩:=G.T.g
  rw [q,e] at b3; cases b3; rw [hd] at b6; cases b6
 obtain ⟨fd,hb,hF⟩:=F w mg fa c T _ KX G.T.g hmg tab
 exact law_callT KX G.T.g G.T.b G.T.builtins G.T.nolimit hg hobj hints (Nat.le_trans hlen (by decide)) hr C hT ⟨bm,ob,b1,b2,hbG,hbT,b3,b4,b5,b6⟩ nK (fun base kb nb C' B'=>hF base kb nb C' B' hgT) hb fun H hS h1=>⟨a,ns,T,c,rfl,hS,hlen,h1,tab,fun _=>rfl⟩
open PySem
noncomputable def AllIn (K:W.Frag) (mg:Str→Option Value) (ar:Str→Option Nat):Tbl→Prop
 | []=>True
 | e::r=>DefIn K mg ar e.1 e.2∧AllIn K mg ar r
theorem AllIn.mem {K:W.Frag}{mg:Str→Option Value}{ar:Str→Option Nat}:∀ {t:Tbl},AllIn K mg ar t→∀ x p,(x,p)∈t→DefIn K mg ar x p
 | [],_,x,p,h=>by cases h
 | e::r,⟨a,b⟩,x,p,h=>by
  rcases List.mem_cons.mp h with q | q
  ·subst q; exact a
  ·exact b.mem x p q
theorem AllIn.look {K:W.Frag}{mg:Str→Option Value}{ar:Str→Option Nat}{t:Tbl} (h:AllIn K mg ar t) (x:Str) (p:Nat × Nat × (CLL→CS)) (e:t.lookup x=some p):DefIn K mg ar x p:=h.mem x p (lookup_mem e)
theorem def_in {K:W.Frag}{mg:Str→Option Value}{ar:Str→Option Nat}{x:Str}{st:Stmt}{fa:Addr}{fd:FuncData}{N ps:List Str}{fuel np nN:Nat}{b:CLL→CS} (F:Fun K x x st fa fd) (m:mg x=some (.ref fa)) (hb:Binds K fd ps []) (hs:fnOk N ps (defScope st)=true)
  (hc:(fun cl:CLL=>cSts ar cl fuel ⟨N,(defScope st).names,some x⟩ (defBody st))=fun cl=>some (b cl)) (h1:ps.length=np:=by rfl) (h2:N.length=nN:=by rfl):DefIn K mg ar x (np,nN,b) :=
 ⟨st,fa,fd,N,ps,fuel,F,m,hb,hs,h1,h2,fun cl=>congrFun hc cl⟩
noncomputable def AllNone (mg:Str→Option Value):List Str→Prop
 | []=>True
 | x::r=>mg x=none∧AllNone mg r
theorem AllNone.mem {mg:Str→Option Value}:∀ {l:List Str},AllNone mg l→∀ x∈l,mg x=none
 | [],_,x,h=>by cases h
 | e::r,⟨a,b⟩,x,h=>by
  rcases List.mem_cons.mp h with q | q
  ·subst q; exact a
  ·exact b.mem x q
open PySem
inductive Tg {γ:Type} (f:γ):Type where
 | mk
noncomputable def rbnd {α β:Type} (r:R α) (f:α→Store→R β) (_:Tg f):R β:=match r with
 | .bad=>.bad
 | .er c S=>.er c S
 | .ok a S=>f a S
@[simp] theorem rbnd_ok {α β:Type} (a:α) (S:Store) (f:α→Store→R β):rbnd (.ok a S) f .mk=f a S:=rfl
@[simp] theorem rbnd_bad {α β:Type} (f:α→Store→R β):rbnd .bad f .mk=.bad:=rfl
@[simp] theorem bnd_ev {α β:Type} (m:M α) (f:α→M β) (S:Store):bnd m f S=rbnd (m S) f .mk:=rfl
@[simp] theorem ret_ev {α:Type} (a:α) (S:Store):ret a S=.ok a S:=rfl
@[simp] theorem bad_ev {α:Type} (S:Store):(bad:M α) S=.bad:=rfl
noncomputable def rs {α:Type} (r:R α) (f:α→Store→RS) (_:Tg f):RS:=match r with
 | .bad=>.bad
 | .er _ _=>.bad
 | .ok a S=>f a S
@[simp] theorem rs_ok {α:Type} (a:α) (S:Store) (f:α→Store→RS):rs (.ok a S) f .mk=f a S:=rfl
@[simp] theorem rs_bad {α:Type} (f:α→Store→RS):rs .bad f .mk=.bad:=rfl
noncomputable def sb (r:RS) (f:CS) (_:Tg f):RS:=match r with
 | .nx ρ S=>f ρ S
 | r=>r
@[simp] theorem sb_nx (ρ:Env1) (S:Store) (f:CS):sb (.nx ρ S) f .mk=f ρ S:=rfl
@[simp] theorem sb_rt (d:D) (S:Store) (f:CS):sb (.rt d S) f .mk=.rt d S:=rfl
@[simp] theorem sb_bk (ρ:Env1) (S:Store) (f:CS):sb (.bk ρ S) f .mk=.bk ρ S:=rfl
@[simp] theorem sb_ct (ρ:Env1) (S:Store) (f:CS):sb (.ct ρ S) f .mk=.ct ρ S:=rfl
@[simp] theorem sSeq_ev (a b:CS) (ρ:Env1) (S:Store):sSeq a b ρ S=sb (a ρ S) b .mk:=by
 unfold sSeq sb; cases a ρ S <;> rfl
@[simp] theorem sb_er (c:Str) (S:Store) (f:CS):sb (.er c S) f .mk=.er c S:=rfl
noncomputable def rsX {α:Type} (r:R α) (f:α→Store→RS) (_:Tg f):RS:=match r with
 | .bad=>.bad
 | .er k S=>.er k S
 | .ok a S=>f a S
@[simp] theorem rsX_ok {α:Type} (a:α) (S:Store) (f:α→Store→RS):rsX (.ok a S) f .mk=f a S:=rfl
@[simp] theorem rsX_er {α:Type} (k:Str) (S:Store) (f:α→Store→RS):rsX (.er k S) f .mk=.er k S:=rfl
noncomputable def rbX {α β:Type} (r:R α) (f:α→Store→R β) (_:Tg f):R β:=match r with
 | .ok a S=>f a S
 | _=>.bad
@[simp] theorem rbX_ok {α β:Type} (a:α) (S:Store) (f:α→Store→R β):rbX (.ok a S) f .mk=f a S:=rfl
@[simp] theorem cAppX_sv (φ:List D→M D) (ca:CA) (ρ:Env1) (S:Store):cAppX φ ca ρ S=rbX (ca ρ S) φ .mk:=by unfold cAppX rbX; cases ca ρ S <;> rfl
@[simp] theorem cIfX_sv (t:CT) (a b:C) (ρ:Env1) (S:Store):cIfX t a b ρ S=rbX (t ρ S) (fun k S1=>if k then a ρ S1 else b ρ S1) .mk:=by unfold cIfX rbX; cases t ρ S <;> rfl
@[simp] theorem sRetX_sv (c:C) (ρ:Env1) (S:Store):sRetX c ρ S=rsX (c ρ S) (fun d S'=>.rt d S') .mk:=by unfold sRetX rsX; cases c ρ S <;> rfl
@[simp] theorem sExprX_sv (c:C) (ρ:Env1) (S:Store):sExprX c ρ S=rsX (c ρ S) (fun _ S'=>.nx ρ S') .mk:=by unfold sExprX rsX; cases c ρ S <;> rfl
@[simp] theorem sAsgX_sv (c:C) (g:G) (ρ:Env1) (S:Store):sAsgX c g ρ S=rsX (c ρ S) (fun d S1=>rs (g d ρ S1) (fun ρ' S2=>.nx ρ' S2) .mk) .mk:=by
 unfold sAsgX rsX rs
 cases c ρ S with
 | ok d S1=>dsimp only; cases g d ρ S1 <;> rfl
 | _=>rfl
@[simp] theorem sRaise_ev (c:Str) (ρ:Env1) (S:Store):sRaise c ρ S=.er c S:=rfl
@[simp] theorem sPass_ev (ρ:Env1) (S:Store):sPass ρ S=.nx ρ S:=rfl
@[simp] theorem sBrk_ev (ρ:Env1) (S:Store):sBrk ρ S=.bk ρ S:=rfl
@[simp] theorem sCnt_ev (ρ:Env1) (S:Store):sCnt ρ S=.ct ρ S:=rfl
@[simp] theorem sRetN_ev (ρ:Env1) (S:Store):sRetN ρ S=.rt .non S:=rfl
@[simp] theorem sRet_ev (c:C) (ρ:Env1) (S:Store):sRet c ρ S=rs (c ρ S) (fun d S'=>.rt d S') .mk:=by
 unfold sRet rs; cases c ρ S <;> rfl
@[simp] theorem sExpr_ev (c:C) (ρ:Env1) (S:Store):sExpr c ρ S=rs (c ρ S) (fun _ S'=>.nx ρ S') .mk:=by
 unfold sExpr rs; cases c ρ S <;> rfl
@[simp] theorem sAsg_ev (c:C) (g:G) (ρ:Env1) (S:Store):sAsg c g ρ S=rs (c ρ S) (fun d S1=>rs (g d ρ S1) (fun ρ' S2=>.nx ρ' S2) .mk) .mk:=by
 unfold sAsg rs
 cases c ρ S with
 | ok d S1=>dsimp only; cases g d ρ S1 <;> rfl
 | _=>rfl
@[simp] theorem sIf_ev (t:CT) (a b:CS) (ρ:Env1) (S:Store):sIf t a b ρ S=rs (t ρ S) (fun k S'=>if k then a ρ S' else b ρ S') .mk:=by
 unfold sIf rs; cases t ρ S <;> rfl
@[simp] theorem sFor_ev (it:CI) (g:G) (b:CS) (ρ:Env1) (S:Store):sFor it g b ρ S=rs (it ρ S) (fun p S1=>loopS p.2 g b p.1 ρ S1) .mk:=by
 unfold sFor rs
 cases it ρ S with
 | ok p S1=>obtain ⟨a,b⟩:=p; rfl
 | _=>rfl
@[simp] theorem gN_ev (i:Nat) (d:D) (ρ:Env1) (S:Store):gN i d ρ S=.ok (ρ.set i (some d)) S:=rfl
noncomputable def mo {α:Type} (o:Option α) (S':α→Store) (ρ:Env1):R Env1:=match o with
 | some x=>.ok ρ (S' x)
 | none=>.bad
@[simp] theorem gS_ev (co ci:C) (d:D) (ρ:Env1) (S:Store):gS co ci d ρ S=rbnd (co ρ S) (fun o S1=>rbnd (ci ρ S1) (fun i S2=>mo (oSet o i d S2) (fun x=>x) ρ) .mk) .mk:=by
 unfold gS
 rw [bnd_ev]
 cases co ρ S with
 | bad=>rfl
 | er _ _=>rfl
 | ok o S1 =>
  rw [rbnd_ok,rbnd_ok,bnd_ev]
  cases ci ρ S1 with
  | bad=>rfl
  | er _ _=>rfl
  | ok i S2 =>
   rw [rbnd_ok,rbnd_ok]
   cases h:oSet o i d S2 <;> rfl
@[simp] theorem mo_some {α:Type} (x:α) (f:α→Store) (ρ:Env1):mo (some x) f ρ=.ok ρ (f x):=rfl
@[simp] theorem gT_ev (gs:List G) (xs:List D) (ρ:Env1) (S:Store):gT gs (.tup xs) ρ S=gTs gs xs ρ S:=rfl
@[simp] theorem gTs_nil (ρ:Env1) (S:Store):gTs [] [] ρ S=.ok ρ S:=rfl
@[simp] theorem gTs_cons (g:G) (gs:List G) (x:D) (xs:List D) (ρ:Env1) (S:Store):gTs (g::gs) (x::xs) ρ S=rbnd (g x ρ S) (fun ρ1 S1=>gTs gs xs ρ1 S1) .mk:=rfl
@[simp] theorem cVar_ev (i:Nat) (ρ:Env1) (S:Store):cVar i ρ S=match ρ[i]? with | some (some d)=>.ok d S | _=>.bad:=rfl
@[simp] theorem cCon_ev (d:D) (ρ:Env1) (S:Store):cCon d ρ S=.ok d S:=rfl
@[simp] theorem cBin_ev (o:D→D→M D) (a b:C) (ρ:Env1) (S:Store):cBin o a b ρ S=rbnd (a ρ S) (fun x S1=>rbnd (b ρ S1) (fun y S2=>o x y S2) .mk) .mk:=rfl
@[simp] theorem cUn_ev (o:D→M D) (a:C) (ρ:Env1) (S:Store):cUn o a ρ S=rbnd (a ρ S) o .mk:=rfl
@[simp] theorem cArgs_nil (ρ:Env1) (S:Store):cArgs [] ρ S=.ok [] S:=rfl
@[simp] theorem cArgs_cons (c:C) (cs:List C) (ρ:Env1) (S:Store):cArgs (c::cs) ρ S=rbnd (c ρ S) (fun x S1=>rbnd (cArgs cs ρ S1) (fun xs S2=>.ok (x::xs) S2) .mk) .mk:=rfl
@[simp] theorem cApp_ev (o:List D→M D) (a:CA) (ρ:Env1) (S:Store):cApp o a ρ S=rbnd (a ρ S) o .mk:=rfl
@[simp] theorem cTup_ev (a:CA) (ρ:Env1) (S:Store):cTup a ρ S=rbnd (a ρ S) (fun xs S1=>.ok (.tup xs) S1) .mk:=rfl
@[simp] theorem cLst_ev (a:CA) (ρ:Env1) (S:Store):cLst a ρ S=rbnd (a ρ S) (fun xs S1=>.ok (.lst S1.length) (S1++[.lst xs])) .mk:=rfl
@[simp] theorem cIf_ev (t:CT) (a b:C) (ρ:Env1) (S:Store):cIf t a b ρ S=rbnd (t ρ S) (fun k S1=>if k then a ρ S1 else b ρ S1) .mk:=by
 unfold cIf; rw [bnd_ev]
 cases t ρ S with
 | ok k S1=>cases k <;> rfl
 | bad=>rfl
 | er _ _=>rfl
@[simp] theorem cBool_ev (a:C) (ρ:Env1) (S:Store):cBool a ρ S=rbnd (a ρ S) (fun x S1=>dB x S1) .mk:=rfl
@[simp] theorem dB_ev (b:Bool) (S:Store):dB (.bl b) S=.ok b S:=rfl
@[simp] theorem cAndV_ev (a b:C) (ρ:Env1) (S:Store):cAndV a b ρ S=rbnd (cBool a ρ S) (fun k S1=>if k then b ρ S1 else .ok (.bl false) S1) .mk:=by
 unfold cAndV; rw [bnd_ev]
 cases cBool a ρ S with
 | ok k S1=>cases k <;> rfl
 | bad=>rfl
 | er _ _=>rfl
@[simp] theorem cOrV_ev (a b:C) (ρ:Env1) (S:Store):cOrV a b ρ S=rbnd (cBool a ρ S) (fun k S1=>if k then .ok (.bl true) S1 else b ρ S1) .mk:=by
 unfold cOrV; rw [bnd_ev]
 cases cBool a ρ S with
 | ok k S1=>cases k <;> rfl
 | bad=>rfl
 | er _ _=>rfl
@[simp] theorem cNotV_ev (a:C) (ρ:Env1) (S:Store):cNotV a ρ S=rbnd (cBool a ρ S) (fun k S1=>.ok (.bl (!k)) S1) .mk:=rfl
@[simp] theorem cAndT_ev (a b:CT) (ρ:Env1) (S:Store):cAndT a b ρ S=rbnd (a ρ S) (fun k S1=>if k then b ρ S1 else .ok false S1) .mk:=by
 unfold cAndT; rw [bnd_ev]
 cases a ρ S with
 | ok k S1=>cases k <;> rfl
 | bad=>rfl
 | er _ _=>rfl
@[simp] theorem cOrT_ev (a b:CT) (ρ:Env1) (S:Store):cOrT a b ρ S=rbnd (a ρ S) (fun k S1=>if k then .ok true S1 else b ρ S1) .mk:=by
 unfold cOrT; rw [bnd_ev]
 cases a ρ S with
 | ok k S1=>cases k <;> rfl
 | bad=>rfl
 | er _ _=>rfl
@[simp] theorem cNotT_ev (a:CT) (ρ:Env1) (S:Store):cNotT a ρ S=rbnd (a ρ S) (fun k S1=>.ok (!k) S1) .mk:=rfl
@[simp] theorem cChain_ev (o o':D→D→M D) (a b c:C) (ρ:Env1) (S:Store):cChain o o' a b c ρ S=rbnd (a ρ S) (fun x S1=>rbnd (b ρ S1) (fun y S2=>rbnd (o x y S2) (fun z S3=>rbnd (dB z S3) (fun k S4=>if k then rbnd (c ρ S4) (fun w S5=>o' y w S5) .mk else .ok (.bl false) S4) .mk) .mk) .mk) .mk:=by
 unfold cChain
 rw [bnd_ev]
 cases a ρ S with
 | bad=>rfl
 | er _ _=>rfl
 | ok x S1 =>
  rw [rbnd_ok,rbnd_ok,bnd_ev]
  cases b ρ S1 with
  | bad=>rfl
  | er _ _=>rfl
  | ok y S2 =>
   rw [rbnd_ok,rbnd_ok,bnd_ev]
   cases o x y S2 with
   | bad=>rfl
   | er _ _=>rfl
   | ok z S3 =>
    rw [rbnd_ok,rbnd_ok,bnd_ev]
    cases dB z S3 with
    | bad=>rfl
    | er _ _=>rfl
    | ok k S4=>cases k <;> rfl
@[simp] theorem cTru_ev (a:C) (ρ:Env1) (S:Store):cTru a ρ S=rbnd (a ρ S) (fun x S1=>dTru x S1) .mk:=rfl
@[simp] theorem dTru_bl (b:Bool) (S:Store):dTru (.bl b) S=.ok b S:=rfl
@[simp] theorem dTru_int (i:Int) (S:Store):dTru (.int i) S=.ok (i != 0) S:=rfl
@[simp] theorem dTru_tup (xs:List D) (S:Store):dTru (.tup xs) S=.ok (!xs.isEmpty) S:=rfl
@[simp] theorem cNoPart_ev (ρ:Env1) (S:Store):cNoPart ρ S=.ok none S:=rfl
@[simp] theorem cPart_ev (a:C) (ρ:Env1) (S:Store):cPart a ρ S=rbnd (a ρ S) (fun x S1=>rbnd (dInt x S1) (fun i S2=>.ok (some i) S2) .mk) .mk:=rfl
@[simp] theorem dInt_ev (i:Int) (S:Store):dInt (.int i) S=.ok i S:=rfl
@[simp] theorem cSl_ev (o:D→Option Int→Option Int→M D) (a:C) (lo hi:CO) (ρ:Env1) (S:Store):cSl o a lo hi ρ S=rbnd (a ρ S) (fun x S1=>rbnd (lo ρ S1) (fun l S2=>rbnd (hi ρ S2) (fun h S3=>o x l h S3) .mk) .mk) .mk:=rfl
@[simp] theorem cMeth_ev (T:String) (o:D→List D→M D) (a:C) (as:CA) (ρ:Env1) (S:Store):cMeth T o a as ρ S=rbnd (a ρ S) (fun x S1=>if tyOk T x S1 then rbnd (as ρ S1) (fun xs S2=>o x xs S2) .mk else .bad) .mk:=rfl
@[simp] theorem iSeq_ev (c:C) (ρ:Env1) (S:Store):iSeq c ρ S=rbnd (c ρ S) (fun x S1=>match x with
 | .tup xs=>.ok (xs,[]) S1
 | .lst n=>match lstAt S1 n with
  | some xs=>.ok (xs,[(n,xs)]) S1
  | none=>.bad
 | _=>.bad) .mk:=rfl
@[simp] theorem iRange1_ev (a:CA) (ρ:Env1) (S:Store):iRange1 a ρ S=rbnd (a ρ S) (fun xs S1=>match xs with
 | [.int j]=>if -4611686018427387904≤j∧j<4611686018427387904 then .ok (upD 0 j.toNat,[]) S1 else .bad
 | _=>.bad) .mk:=rfl
@[simp] theorem iRange2_ev (a:CA) (ρ:Env1) (S:Store):iRange2 a ρ S=rbnd (a ρ S) (fun xs S1=>match xs with
 | [.int i,.int j]=>if -4611686018427387904≤i∧i<4611686018427387904∧-4611686018427387904≤j∧j<4611686018427387904 then .ok (upD i (j - i).toNat,[]) S1 else .bad
 | _=>.bad) .mk:=rfl
@[simp] theorem iZipL_ev (a:CA) (ρ:Env1) (S:Store):iZipL a ρ S=rbnd (a ρ S) (fun xs S1=>match xs with
 | [x,y]=>match zsAt S1 x,zsAt S1 y with
  | some ys,some zs=>.ok (zipD ys zs,watchOf x ys++watchOf y zs) S1
  | _,_=>.bad
 | _=>.bad) .mk:=rfl
@[simp] theorem watchOf_lst (n:Nat) (xs:List D):watchOf (.lst n) xs=[(n,xs)]:=rfl
@[simp] theorem watchOf_tup (ys:List D) (xs:List D):watchOf (.tup ys) xs=[]:=rfl
@[simp] theorem zsAt_lst (S:Store) (n:Nat):zsAt S (.lst n)=lstAt S n:=rfl
@[simp] theorem zsAt_tup (S:Store) (xs:List D):zsAt S (.tup xs)=some xs:=rfl
@[simp] theorem cComp_ev (it:CI) (k:Nat) (js:List Nat) (t:Tgt) (tc:CT) (c:C) (ρ:Env1) (S:Store):cComp it k js t tc c ρ S=rbnd (it ρ S) (fun p S1=>if p.1.length<lim then rbnd (loopC p.2 t tc c (stE k js ρ) p.1 S1) (fun ys S'=>.ok (.lst S'.length) (S'++[.lst ys])) .mk else .bad) .mk:=rfl
@[simp] theorem cDNew_ev (ρ:Env1) (S:Store):cDNew ρ S=.ok (.dct S.length) (S++[.dk []]):=rfl
@[simp] theorem cDOne_ev (a b:C) (ρ:Env1) (S:Store):cDOne a b ρ S=rbnd (a ρ S) (fun x S1=>rbnd (b ρ S1) (fun y S2=>match keyOf x with
 | some k=>.ok (.dct S2.length) (S2++[.dk [(k,y)]])
 | none=>.bad) .mk) .mk:=rfl
@[simp] theorem oAdd_int (i j:Int) (S:Store):oAdd (.int i) (.int j) S=.ok (.int (i+j)) S:=rfl
@[simp] theorem oAdd_tup (xs ys:List D) (S:Store):oAdd (.tup xs) (.tup ys) S=if xs.length+ys.length≤lim then .ok (.tup (xs++ys)) S else .bad:=rfl
@[simp] theorem oInt_ev (g:Int→Int→Int) (i j:Int) (S:Store):oInt g (.int i) (.int j) S=.ok (.int (g i j)) S:=rfl
@[simp] theorem oMul_int (i j:Int) (S:Store):oMul (.int i) (.int j) S=if mulOk i j then .ok (.int (i*j)) S else .bad:=rfl
@[simp] theorem oMod_int (i j:Int) (S:Store):oMod (.int i) (.int j) S=if 0<j then .ok (.int (i % j)) S else .bad:=rfl
@[simp] theorem oDiv_int (i j:Int) (S:Store):oDiv (.int i) (.int j) S=if 0<j∧j<1073741824 then .ok (.int (i / j)) S else .bad:=rfl
@[simp] theorem oPow_int (i j:Int) (S:Store):oPow (.int i) (.int j) S=if 0≤j∧j≤1000000∧i.natAbs<18446744073709551616 then .ok (.int (i ^ j.toNat)) S else .bad:=rfl
@[simp] theorem oShl_int (i j:Int) (S:Store):oShl (.int i) (.int j) S=if 0≤j∧j≤1000000∧i.natAbs<18446744073709551616 then .ok (.int (i*2 ^ j.toNat)) S else .bad:=rfl
@[simp] theorem oShr_int (i j:Int) (S:Store):oShr (.int i) (.int j) S=if 0≤j then .ok (.int (i / 2 ^ j.toNat)) S else .bad:=rfl
@[simp] theorem oNeg_int (i:Int) (S:Store):oNeg (.int i) S=.ok (.int (-i)) S:=rfl
@[simp] theorem oCmp_int (g:Int→Int→Bool) (i j:Int) (S:Store):oCmp g (.int i) (.int j) S=.ok (.bl (g i j)) S:=rfl
@[simp] theorem oLt_int (i j:Int) (S:Store):oLt (.int i) (.int j) S=.ok (.bl (decide (i<j))) S:=rfl
theorem eqv_int (i j:Int):PyData.eqv (.int i) (.int j)=decide (i=j):=by
 show (i == j)=decide (i=j)
 rfl
@[simp] theorem oEq_int (i j:Int) (S:Store):oEq (.int i) (.int j) S=.ok (.bl (decide (i=j))) S:=by
 show R.ok (D.bl (PyData.eqv (.int i) (.int j))) S=_
 rw [eqv_int]
@[simp] theorem oNe_int (i j:Int) (S:Store):oNe (.int i) (.int j) S=.ok (.bl (!decide (i=j))) S:=by
 show R.ok (D.bl (!PyData.eqv (.int i) (.int j))) S=_
 rw [eqv_int]
@[simp] theorem oEq_bl (i j:Bool) (S:Store):oEq (.bl i) (.bl j) S=.ok (.bl (i == j)) S:=by
 show R.ok (D.bl (PyData.eqv (.bool i) (.bool j))) S=_
 cases i <;> cases j <;> rfl
@[simp] theorem oNe_bl (i j:Bool) (S:Store):oNe (.bl i) (.bl j) S=.ok (.bl (i != j)) S:=by
 show R.ok (D.bl (!PyData.eqv (.bool i) (.bool j))) S=_
 cases i <;> cases j <;> rfl
@[simp] theorem oIs_non (x:D) (S:Store):oIs x .non S=.ok (.bl x.isNon) S:=by cases x <;> rfl
@[simp] theorem oIsNot_non (x:D) (S:Store):oIsNot x .non S=.ok (.bl (!x.isNon)) S:=by cases x <;> rfl
@[simp] theorem oIs_bl (a b:Bool) (S:Store):oIs (.bl a) (.bl b) S=.ok (.bl (a == b)) S:=rfl
@[simp] theorem oIsNot_bl (a b:Bool) (S:Store):oIsNot (.bl a) (.bl b) S=.ok (.bl (a != b)) S:=rfl
@[simp] theorem fMin_ev (i j:Int) (S:Store):fMin [.int i,.int j] S=.ok (.int (if j<i then j else i)) S:=rfl
@[simp] theorem fMax_ev (i j:Int) (S:Store):fMax [.int i,.int j] S=.ok (.int (if j>i then j else i)) S:=rfl
@[simp] theorem fInt_int (i:Int) (S:Store):fInt [.int i] S=.ok (.int i) S:=rfl
@[simp] theorem fInt_bl (b:Bool) (S:Store):fInt [.bl b] S=.ok (.int (if b then 1 else 0)) S:=rfl
@[simp] theorem fTuple_tup (xs:List D) (S:Store):fTuple [.tup xs] S=.ok (.tup xs) S:=rfl
theorem fTuple_lst {n:Nat}{xs:List D}{S:Store} (h:lstAt S n=some xs):fTuple [.lst n] S=.ok (.tup xs) S:=by
 show (match lstAt S n with | some ys=>R.ok (D.tup ys) S | none=>.bad)=_
 rw [h]
@[simp] theorem fLen_tup (xs:List D) (S:Store):fLen [.tup xs] S=.ok (.int xs.length) S:=rfl
@[simp] theorem fLen_rol (xs:List D) (S:Store):fLen [.rol xs] S=.ok (.int xs.length) S:=rfl
theorem fLen_lst {n:Nat}{xs:List D}{S:Store} (h:lstAt S n=some xs):fLen [.lst n] S=.ok (.int xs.length) S:=by
 show (match seqAt S (.lst n) with | some ys=>R.ok (D.int ys.length) S | none=>.bad)=_
 show (match lstAt S n with | some ys=>R.ok (D.int ys.length) S | none=>.bad)=_
 rw [h]
@[simp] theorem fList_tup (xs:List D) (S:Store):fList [.tup xs] S=.ok (.lst S.length) (S++[.lst xs]):=rfl
@[simp] theorem oIx_tup (xs:List D) (j:Int) (S:Store):oIx (.tup xs) (.int j) S=match atI xs j with | some d=>.ok d S | none=>.bad:=rfl
@[simp] theorem oIx_rol (xs:List D) (j:Int) (S:Store):oIx (.rol xs) (.int j) S=match atI xs j with | some d=>.ok d S | none=>.bad:=rfl
theorem oIx_lst {n:Nat}{xs:List D}{S:Store} (h:lstAt S n=some xs) (j:Int):oIx (.lst n) (.int j) S=match atI xs j with | some d=>.ok d S | none=>.bad:=by
 show (match lstAt S n,D.int j with | some xs,.int j=>(match atI xs j with | some d=>R.ok d S | none=>.bad) | _,_=>.bad)=_
 rw [h]
@[simp] theorem oSl_tup (xs:List D) (lo hi:Option Int) (S:Store):oSl (.tup xs) lo hi S=.ok (.tup (cutD xs lo hi)) S:=rfl
theorem oSl_lst {n:Nat}{xs:List D}{S:Store} (h:lstAt S n=some xs) (lo hi:Option Int):oSl (.lst n) lo hi S=.ok (.lst S.length) (S++[.lst (cutD xs lo hi)]):=by
 show (match lstAt S n with | some xs=>R.ok (D.lst S.length) (S++[O.lst (cutD xs lo hi)]) | none=>.bad)=_
 rw [h]
@[simp] theorem atI_0 {α:Type} (x:α) (xs:List α):atI (x::xs) 0=some x:=atI_nat (j:=0) rfl
@[simp] theorem atI_1 {α:Type} (x y:α) (xs:List α):atI (x::y::xs) 1=some y:=atI_nat (j:=1) rfl
@[simp] theorem atI_2 {α:Type} (x y z:α) (xs:List α):atI (x::y::z::xs) 2=some z:=atI_nat (j:=2) rfl
@[simp] theorem atI_3 {α:Type} (x y z w:α) (xs:List α):atI (x::y::z::w::xs) 3=some w:=atI_nat (j:=3) rfl
structure Kp (P:Nat→Prop) (S S':Store):Prop where
 le:S.length≤S'.length
 eq:∀ j,j<S.length→¬ P j→S'[j]?=S[j]?
noncomputable abbrev Ex:Store→Store→Prop:=Kp fun _=>False
inductive Spc {α:Type} (m:R α) (r:α) (S:Store):Prop
 | mk (S1:Store) (e:m=.ok r S1) (x:Ex S S1)
theorem Kp.refl (P:Nat→Prop) (S:Store):Kp P S S:=⟨Nat.le_refl _,fun _ _ _=>rfl⟩
theorem Kp.trans {P:Nat→Prop}{S S1 S2:Store} (a:Kp P S S1) (b:Kp P S1 S2):Kp P S S2:=⟨Nat.le_trans a.le b.le,fun j h n=>(b.eq j (Nat.lt_of_lt_of_le h a.le) n).trans (a.eq j h n)⟩
theorem Ex.kp {P:Nat→Prop}{S S':Store} (h:Ex S S'):Kp P S S':=⟨h.le,fun j hj _=>h.eq j hj (fun z=>z)⟩
theorem Kp.kp {P:Nat→Prop}{S S':Store} (h:Kp (fun _=>False) S S'):Kp P S S':=⟨h.le,fun j hj _=>h.eq j hj (fun z=>z)⟩
theorem ex_app (S T:Store):Ex S (S++T):=⟨by simp,fun j h _=>List.getElem?_append_left h⟩
theorem kp_set {i:Nat} (S:Store) (o:O):Kp (·=i) S (S.set i o):=⟨by simp,fun j h n=>List.getElem?_set_ne fun z=>n z.symm⟩
theorem Kp.at {P:Nat→Prop}{S S':Store} (h:Kp P S S') {j:Nat}{o:O} (e:S[j]?=some o) (n:¬ P j):S'[j]?=some o:=by
 rw [h.eq j (List.getElem?_eq_some_iff.mp e).1 n]; exact e
theorem lstAt_some {S:Store}{n:Nat}{xs:List D} (h:lstAt S n=some xs):S[n]?=some (.lst xs):=by
 unfold lstAt at h
 split at h
 ·rename_i ys e; cases h; exact e
 ·cases h
theorem lstAt_of {S:Store}{n:Nat}{xs:List D} (h:S[n]?=some (.lst xs)):lstAt S n=some xs:=by unfold lstAt; rw [h]
theorem Kp.lst {P:Nat→Prop}{S S':Store} (h:Kp P S S') {j:Nat}{xs:List D} (e:lstAt S j=some xs) (n:¬ P j):lstAt S' j=some xs:=lstAt_of (h.at (lstAt_some e) n)
theorem lstAt_lt {S:Store}{n:Nat}{xs:List D} (h:lstAt S n=some xs):n<S.length:=(List.getElem?_eq_some_iff.mp (lstAt_some h)).1
@[simp] theorem lstAt_new (S:Store) (xs:List D):lstAt (S++[.lst xs]) S.length=some xs:=lstAt_of (by rw [List.getElem?_append_right (Nat.le_refl _),Nat.sub_self]; rfl)
theorem lstAt_app {S T:Store}{n:Nat}{xs:List D} (h:lstAt S n=some xs):lstAt (S++T) n=some xs:=(ex_app S T).lst h fun z=>z
theorem lstAt_set {S:Store}{n:Nat}{xs ys:List D} (h:lstAt S n=some xs):lstAt (S.set n (.lst ys)) n=some ys:=lstAt_of (List.getElem?_set_self (lstAt_lt h))
theorem tyOk_lst {S:Store}{n:Nat}{xs:List D} (h:lstAt S n=some xs):tyOk "list" (.lst n) S=true:=by
 show (decide ("list" = "list")&&(lstAt S n).isSome)=true
 rw [h]; rfl
theorem mList_ev {S:Store}{n:Nat}{ys:List D} (h:lstAt S n=some ys) (g:List D→List D→Option (List D × D)) (xs:List D):mList g (.lst n) xs S=match g ys xs with | some p=>.ok p.2 (S.set n (.lst p.1)) | none=>.bad:=by
 unfold mList
 dsimp only
 rw [lstAt_some h]
 dsimp only
 cases g ys xs with
 | none=>rfl
 | some p=>rfl
@[simp] theorem gAppend_ev (ys:List D) (x:D):gAppend ys [x]=if ys.length<lim then some (ys++[x],.non) else none:=rfl
@[simp] theorem gInsert_ev (ys:List D) (i:Int) (x:D):gInsert ys [.int i,x]=if ys.length<1000∧0≤i∧i.toNat≤ys.length then some (ys.take i.toNat++x::ys.drop i.toNat,.non) else none:=rfl
theorem oSet_lst {S:Store}{n:Nat}{ys:List D} (h:lstAt S n=some ys) (k:Int) (v:D):oSet (.lst n) (.int k) v S=match ixN ys.length k with | some j=>some (S.set n (.lst (ys.set j v))) | none=>none:=by
 unfold oSet
 dsimp only
 rw [lstAt_some h]
 all_goals (dsimp only; cases ixN ys.length k <;> rfl)
theorem okW_nil (S:Store):okW [] S:=fun p h=>by cases h
theorem okW_one {S:Store}{n:Nat}{xs:List D} (h:lstAt S n=some xs):okW [(n,xs)] S:=fun p hp=>by
 simp at hp; subst hp; exact h
theorem okW_two {S:Store}{n m:Nat}{xs ys:List D} (h:lstAt S n=some xs) (h2:lstAt S m=some ys):okW [(n,xs),(m,ys)] S:=fun p hp=>by
 simp at hp
 rcases hp with rfl | rfl
 ·exact h
 ·exact h2
theorem loop_go {w:Watch}{g:G}{b:CS}:∀ (items:List D) (P:Nat→Env1→Store→Prop) {ρ:Env1}{S:Store} (k:Nat),(∀ i ρ S,P i ρ S→okW w S)→P k ρ S →
  (∀ i d ρ S,items[i]?=some d→P (k+i) ρ S→∃ ρ1 S1,g d ρ S=.ok ρ1 S1∧∃ ρ2 S2,(b ρ1 S1=.nx ρ2 S2∨b ρ1 S1=.ct ρ2 S2)∧P (k+i+1) ρ2 S2)→∃ ρ' S',loopS w g b items ρ S=.nx ρ' S'∧P (k+items.length) ρ' S'
 | [],P,ρ,S,k,hw,h0,hs=>⟨ρ,S,by unfold loopS; rw [if_pos (hw k ρ S h0)],by simpa using h0⟩
 | d::ds,P,ρ,S,k,hw,h0,hs=>by
  obtain ⟨ρ1,S1,e1,ρ2,S2,e2,p2⟩:=hs 0 d ρ S rfl (by simpa using h0)
  obtain ⟨ρ',S',e3,p3⟩:=loop_go ds P (k+1) hw (by simpa using p2) (fun i d' ρ S hi hp=>by
   obtain ⟨ρ1,S1,q1,ρ2,S2,q2,q3⟩:=hs (i+1) d' ρ S (by rw [List.getElem?_cons_succ]; exact hi) (by rw [show k+(i+1)=k+1+i by omega]; exact hp)
   exact ⟨ρ1,S1,q1,ρ2,S2,q2,by rw [show k+1+i+1=k+(i+1)+1 by omega]; exact q3⟩)
  refine ⟨ρ',S',?_,by rw [List.length_cons,show k+(ds.length+1)=k+1+ds.length by omega]; exact p3⟩
  unfold loopS
  rw [if_pos (hw k ρ S h0),e1]
  dsimp only
  rcases e2 with e2 | e2
  ·rw [e2]; exact e3
  ·rw [e2]; exact e3
inductive TurnE (r:RS) (P:Env1→Store→Prop):Prop
 | mk (ρ2:Env1) (S2:Store) (h:r=.nx ρ2 S2∨r=.ct ρ2 S2) (p:P ρ2 S2)
inductive TurnR (g:G) (b:CS) (d:D) (ρ:Env1) (S:Store) (P:Env1→Store→Prop):Prop
 | mk (ρ1:Env1) (S1:Store) (e:g d ρ S=.ok ρ1 S1) (t:TurnE (b ρ1 S1) P)
inductive LoopR (r:RS) (P:Env1→Store→Prop):Prop
 | mk (ρ':Env1) (S':Store) (e:r=.nx ρ' S') (p:P ρ' S')
theorem loop_inv {w:Watch}{g:G}{b:CS}{items:List D} (P:Nat→Env1→Store→Prop) {ρ:Env1}{S:Store} (hw:∀ i ρ S,P i ρ S→okW w S) (h0:P 0 ρ S)
  (hs:∀ i d ρ S,items[i]?=some d→P i ρ S→TurnR g b d ρ S (P (i+1))):LoopR (loopS w g b items ρ S) (P items.length):=by
 obtain ⟨ρ',S',e,p⟩:=loop_go items P 0 hw h0 (fun i d ρ S hi hp=>by
  obtain ⟨ρ1,S1,q1,ρ2,S2,q2,q3⟩:=hs i d ρ S hi (by simpa using hp)
  exact ⟨ρ1,S1,q1,ρ2,S2,q2,by simpa using q3⟩)
 exact ⟨ρ',S',e,by simpa using p⟩
inductive CompR (m:R (List D)) (r:List D) (P:Store→Prop):Prop
 | mk (S':Store) (e:m=.ok r S') (p:P S')
theorem comp_goM {α:Type} (e:α→D) {w:Watch}{t:Tgt}{tc:CT}{c:C}{ρ0:Env1} (P:Store→Prop) (hw:∀ S,P S→okW w S) (p:α→Bool) (f:α→D):∀ (l:List α) {S:Store},P S →
  (∀ a∈l,∀ S,P S→∃ ρ1,bindT t (e a) ρ0=some ρ1∧∃ S1,tc ρ1 S=.ok (p a) S1∧(p a=false→P S1)∧(p a=true→∃ S2,c ρ1 S1=.ok (f a) S2∧P S2))→CompR (loopC w t tc c ρ0 (l.map e) S) ((l.filter p).map f) P
 | [],S,h0,hs=>⟨S,by rw [List.map_nil]; unfold loopC; rw [if_pos (hw S h0)]; rfl,h0⟩
 | d::ds,S,h0,hs=>by
  obtain ⟨ρ1,e1,S1,e2,hf,ht⟩:=hs d (by simp) S h0
  rw [List.map_cons]
  unfold loopC
  rw [if_pos (hw S h0),e1]
  dsimp only
  rw [bnd_ev,e2,rbnd_ok]
  cases hp:p d with
  | false =>
   obtain ⟨S',e3,h3⟩:=comp_goM e P hw p f ds (hf hp) fun d' hd=>hs d' (by simp [hd])
   exact ⟨S',by rw [if_neg Bool.false_ne_true,e3,List.filter_cons,hp]; rfl,h3⟩
  | true =>
   obtain ⟨S2,e4,h4⟩:=ht hp
   obtain ⟨S',e3,h3⟩:=comp_goM e P hw p f ds h4 fun d' hd=>hs d' (by simp [hd])
   exact ⟨S',by rw [if_pos rfl,bnd_ev,e4,rbnd_ok,bnd_ev,e3,rbnd_ok,List.filter_cons,hp]; rfl,h3⟩
theorem comp_mapM {α:Type} (e:α→D) {w:Watch}{t:Tgt}{c:C}{ρ0:Env1} (P:Store→Prop) (hw:∀ S,P S→okW w S) (f:α→D) (l:List α) {S:Store} (h0:P S)
  (hs:∀ a∈l,∀ S,P S→∃ ρ1,bindT t (e a) ρ0=some ρ1∧∃ S2,c ρ1 S=.ok (f a) S2∧P S2):CompR (loopC w t (fun _=>ret true) c ρ0 (l.map e) S) (l.map f) P:=by
 obtain ⟨S',e,h⟩:=comp_goM e (w:=w) (t:=t) (tc:=fun _=>ret true) (c:=c) (ρ0:=ρ0) P hw (fun _=>true) f l h0 (fun d hd S h=>by
  obtain ⟨ρ1,e1,S2,e2,h2⟩:=hs d hd S h
  exact ⟨ρ1,e1,S,rfl,(fun z=>by cases z),fun _=>⟨S2,e2,h2⟩⟩)
 exact ⟨S',by rw [e,List.filter_eq_self.mpr (by simp)],h⟩
theorem comp_pure {α:Type} (e:α→D) {w:Watch}{t:Tgt}{tc:CT}{c:C}{ρ0:Env1}{S:Store} (hw:okW w S) (p:α→Bool) (f:α→D) (l:List α)
  (hs:∀ a∈l,∃ ρ1,bindT t (e a) ρ0=some ρ1∧tc ρ1 S=.ok (p a) S∧(p a=true→c ρ1 S=.ok (f a) S)):loopC w t tc c ρ0 (l.map e) S=.ok ((l.filter p).map f) S:=by
 obtain ⟨S',e1,h⟩:=comp_goM e (w:=w) (t:=t) (tc:=tc) (c:=c) (ρ0:=ρ0) (fun S'=>S'=S) (fun S' z=>z▸hw) p f l rfl (fun a ha S' z=>by
  subst z
  obtain ⟨ρ1,q1,q2,q3⟩:=hs a ha
  exact ⟨ρ1,q1,S',q2,fun _=>rfl,fun z=>⟨S',q3 z,rfl⟩⟩)
 rw [e1,h]
theorem comp_pureM {α:Type} (e:α→D) {w:Watch}{t:Tgt}{c:C}{ρ0:Env1}{S:Store} (hw:okW w S) (f:α→D) (l:List α)
  (hs:∀ a∈l,∃ ρ1,bindT t (e a) ρ0=some ρ1∧c ρ1 S=.ok (f a) S):loopC w t (fun _=>ret true) c ρ0 (l.map e) S=.ok (l.map f) S:=by
 have:=comp_pure e (tc:=fun _=>ret true) (c:=c) hw (fun _=>true) f l (fun a ha=>by
  obtain ⟨ρ1,q1,q2⟩:=hs a ha
  exact ⟨ρ1,q1,rfl,fun _=>q2⟩)
 rw [this,List.filter_eq_self.mpr (by simp)]
@[simp] theorem bindT_one (d:D) (ρ:Env1):bindT .one d ρ=some (ρ.set 0 (some d)):=rfl
@[simp] theorem bindT_two (x y:D) (ρ:Env1):bindT (.many 2) (.tup [x,y]) ρ=some ((ρ.set 0 (some x)).set 1 (some y)):=rfl
@[simp] theorem stE_ev (k:Nat) (js:List Nat) (ρ:Env1):stE k js ρ=List.replicate k none++js.map fun j=>(ρ[j]?).getD none:=rfl
theorem runF_ev {np nN:Nat}{b:CS}{ds:List D}{S:Store} (h:ds.length=np):runF np nN b ds S=match b (startE nN ds) S with
 | .nx _ S'=>.ok .non S'
 | .rt d S'=>.ok d S'
 | .er c S'=>.er c S'
 | _=>.bad:=by
 unfold runF
 rw [if_pos h]
 all_goals (cases b (startE nN ds) S <;> rfl)
theorem run_rt {np nN:Nat}{b:CS}{ds:List D}{S S':Store}{d:D} (h:ds.length=np) (e:b (startE nN ds) S=.rt d S'):runF np nN b ds S=.ok d S':=by rw [runF_ev h,e]
theorem run_er {np nN:Nat}{b:CS}{ds:List D}{S S':Store}{c:Str} (h:ds.length=np) (e:b (startE nN ds) S=.er c S'):runF np nN b ds S=.er c S':=by rw [runF_ev h,e]
open PySem
noncomputable def plain:Nat→D→Bool
 | 0,_=>false
 | n+1,d=>match d with
  | .int _=>true
  | .non=>true
  | .str x=>PyData.strOk x
  | .tup xs=>xs.all (plain n)
  | _=>false
noncomputable def pdat:Nat→D→PyData
 | 0,_=>.none
 | n+1,d=>match d with
  | .int i=>.int i
  | .str x=>.str x
  | .tup xs=>.tuple (xs.map (pdat n))
  | _=>.none
theorem mapM_some {α β:Type}{f:α→Option β}{g:α→β}{l:List α} (h:∀ x∈l,f x=some (g x)):l.mapM f=some (l.map g):=by
 induction l with
 | nil=>rfl
 | cons a r ih =>
  rw [List.mapM_cons,h a (by simp),ih fun x hx=>h x (by simp [hx])]
  rfl
theorem snap_plain:∀ {n:Nat}{d:D} (S:Store),plain n d=true→snap n S d=some (pdat n d)
 | 0,d,S,h=>by cases h
 | n+1,d,S,h=>by
  unfold plain at h
  unfold snap pdat
  cases d with
  | int i=>rfl
  | non=>rfl
  | str x=>dsimp only at h ⊢; rw [if_pos h]
  | tup xs =>
   dsimp only at h ⊢
   rw [mapM_some (g:=pdat n) fun x hx=>snap_plain S (List.all_eq_true.mp h x hx)]
   rfl
  | _=>cases h
theorem eqvAll_iff {n:Nat} (ih:∀ d e,plain n d=true→plain n e=true→(PyData.eqv (pdat n d) (pdat n e)=true↔d=e)):∀ (xs ys:List D),xs.all (plain n)=true→ys.all (plain n)=true→(PyData.eqvAll (xs.map (pdat n)) (ys.map (pdat n))=true↔xs=ys)
 | [],[],_,_=>by simp [PyData.eqvAll]
 | [],y::ys,_,_=>by simp [PyData.eqvAll]
 | x::xs,[],_,_=>by simp [PyData.eqvAll]
 | x::xs,y::ys,h1,h2=>by
  rw [List.all_cons,Bool.and_eq_true] at h1 h2
  rw [List.map_cons,List.map_cons]
  show (PyData.eqv (pdat n x) (pdat n y)&&PyData.eqvAll (xs.map (pdat n)) (ys.map (pdat n)))=true↔_
  rw [Bool.and_eq_true,ih x y h1.1 h2.1,eqvAll_iff ih xs ys h1.2 h2.2,List.cons.injEq]
theorem eqv_plain:∀ (n:Nat) (d e:D),plain n d=true→plain n e=true→(PyData.eqv (pdat n d) (pdat n e)=true↔d=e)
 | 0,d,e,h,_=>by cases h
 | n+1,d,e,h1,h2=>by
  unfold plain at h1 h2
  unfold pdat
  cases d with
  | int i =>
   cases e with
   | int j=>simp [PyData.eqv]
   | non=>simp [PyData.eqv]
   | str y=>simp [PyData.eqv]
   | tup ys=>simp [PyData.eqv]
   | _=>cases h2
  | non =>
   cases e with
   | int j=>simp [PyData.eqv]
   | non=>simp [PyData.eqv]
   | str y=>simp [PyData.eqv]
   | tup ys=>simp [PyData.eqv]
   | _=>cases h2
  | str x =>
   cases e with
   | int j=>simp [PyData.eqv]
   | non=>simp [PyData.eqv]
   | str y=>simp [PyData.eqv]
   | tup ys=>simp [PyData.eqv]
   | _=>cases h2
  | tup xs =>
   cases e with
   | int j=>simp [PyData.eqv]
   | non=>simp [PyData.eqv]
   | str y=>simp [PyData.eqv]
   | tup ys =>
    show PyData.eqvAll (xs.map (pdat n)) (ys.map (pdat n))=true↔_
    rw [eqvAll_iff (eqv_plain n) xs ys h1 h2]
    simp
   | _=>cases h2
  | _=>cases h1
noncomputable def eqB {α:Type} (x y:α):Bool:=@decide (x=y) (Classical.propDecidable _)
theorem eqB_iff {α:Type}{x y:α}:eqB x y=true↔x=y:=@decide_eq_true_iff _ (Classical.propDecidable _)
@[simp] theorem eqB_self {α:Type} (x:α):eqB x x=true:=eqB_iff.mpr rfl
theorem eqB_false {α:Type}{x y:α} (h:x≠y):eqB x y=false:=by
 cases q:eqB x y with
 | false=>rfl
 | true=>exact absurd (eqB_iff.mp q) h
theorem bool_ext {a b:Bool} (h:a=true↔b=true):a=b:=by cases a <;> cases b <;> simp at h ⊢
theorem oEq_plain {x y:D} (S:Store) (h1:plain 40 x=true) (h2:plain 40 y=true):oEq x y S=.ok (.bl (eqB x y)) S:=by
 unfold oEq
 split
 ·rename_i a b
  rw [bool_ext (a:=decide (a=b)) (b:=eqB (D.str a) (D.str b)) (by rw [eqB_iff,decide_eq_true_iff]; exact ⟨fun q=>by rw [q],fun q=>by injection q⟩)]
 ·rw [snap_plain S h1,snap_plain S h2]
  dsimp only
  rw [bool_ext ((eqv_plain 40 x y h1 h2).trans eqB_iff.symm)]
theorem snap_lst {S:Store}{k:Nat}{xs:List D} (h:lstAt S k=some xs) (hp:xs.all (plain 39)=true):snap 40 S (.lst k)=some (.list (xs.map (pdat 39))):=by
 show (match lstAt S k with | some xs=>(xs.mapM (snap 39 S)).map PyData.list | none=>none)=_
 rw [h]
 dsimp only
 rw [mapM_some (g:=pdat 39) fun x hx=>snap_plain S (List.all_eq_true.mp hp x hx)]
 rfl
theorem oEq_lst {S:Store}{a b:Nat}{xs ys:List D} (h1:lstAt S a=some xs) (h2:lstAt S b=some ys) (p1:xs.all (plain 39)=true) (p2:ys.all (plain 39)=true):oEq (.lst a) (.lst b) S=.ok (.bl (eqB xs ys)) S:=by
 unfold oEq
 dsimp only
 rw [snap_lst h1 p1,snap_lst h2 p2]
 dsimp only
 rw [bool_ext ((show PyData.eqv (.list (xs.map (pdat 39))) (.list (ys.map (pdat 39)))=true↔xs=ys from eqvAll_iff (eqv_plain 39) xs ys p1 p2).trans eqB_iff.symm)]
theorem oNe_lst {S:Store}{a b:Nat}{xs ys:List D} (h1:lstAt S a=some xs) (h2:lstAt S b=some ys) (p1:xs.all (plain 39)=true) (p2:ys.all (plain 39)=true):oNe (.lst a) (.lst b) S=.ok (.bl (!eqB xs ys)) S:=by
 unfold oNe
 dsimp only
 rw [snap_lst h1 p1,snap_lst h2 p2]
 dsimp only
 rw [bool_ext ((show PyData.eqv (.list (xs.map (pdat 39))) (.list (ys.map (pdat 39)))=true↔xs=ys from eqvAll_iff (eqv_plain 39) xs ys p1 p2).trans eqB_iff.symm)]
theorem plain_tup {n:Nat}{xs:List D} (h:∀ x∈xs,plain n x=true):plain (n+1) (.tup xs)=true:=List.all_eq_true.mpr h
theorem inst_tup (xs:List D) (S:Store):fInst [.tup xs,.ty "tuple"] S=.ok (.bl true) S:=rfl
@[simp] theorem inst_int_bool (i:Int) (S:Store):fInst [.int i,.ty "bool"] S=.ok (.bl false) S:=rfl
@[simp] theorem inst_int_int (i:Int) (S:Store):fInst [.int i,.ty "int"] S=.ok (.bl true) S:=rfl
@[simp] theorem inst_int_tuple (i:Int) (S:Store):fInst [.int i,.ty "tuple"] S=.ok (.bl false) S:=rfl
@[simp] theorem inst_int_list (i:Int) (S:Store):fInst [.int i,.ty "list"] S=.ok (.bl false) S:=rfl
@[simp] theorem inst_bool_bool (b:Bool) (S:Store):fInst [.bl b,.ty "bool"] S=.ok (.bl true) S:=rfl
@[simp] theorem inst_bool_int (b:Bool) (S:Store):fInst [.bl b,.ty "int"] S=.ok (.bl true) S:=rfl
@[simp] theorem inst_bool_tuple (b:Bool) (S:Store):fInst [.bl b,.ty "tuple"] S=.ok (.bl false) S:=rfl
@[simp] theorem inst_bool_list (b:Bool) (S:Store):fInst [.bl b,.ty "list"] S=.ok (.bl false) S:=rfl
@[simp] theorem inst_NoneType_bool  (S:Store):fInst [.non,.ty "bool"] S=.ok (.bl false) S:=rfl
@[simp] theorem inst_NoneType_int  (S:Store):fInst [.non,.ty "int"] S=.ok (.bl false) S:=rfl
@[simp] theorem inst_NoneType_tuple  (S:Store):fInst [.non,.ty "tuple"] S=.ok (.bl false) S:=rfl
@[simp] theorem inst_NoneType_list  (S:Store):fInst [.non,.ty "list"] S=.ok (.bl false) S:=rfl
@[simp] theorem inst_str_bool (x:Str) (S:Store):fInst [.str x,.ty "bool"] S=.ok (.bl false) S:=rfl
@[simp] theorem inst_str_int (x:Str) (S:Store):fInst [.str x,.ty "int"] S=.ok (.bl false) S:=rfl
@[simp] theorem inst_str_tuple (x:Str) (S:Store):fInst [.str x,.ty "tuple"] S=.ok (.bl false) S:=rfl
@[simp] theorem inst_str_list (x:Str) (S:Store):fInst [.str x,.ty "list"] S=.ok (.bl false) S:=rfl
@[simp] theorem inst_tuple_bool (xs:List D) (S:Store):fInst [.tup xs,.ty "bool"] S=.ok (.bl false) S:=rfl
@[simp] theorem inst_tuple_int (xs:List D) (S:Store):fInst [.tup xs,.ty "int"] S=.ok (.bl false) S:=rfl
@[simp] theorem inst_tuple_tuple (xs:List D) (S:Store):fInst [.tup xs,.ty "tuple"] S=.ok (.bl true) S:=rfl
@[simp] theorem inst_tuple_list (xs:List D) (S:Store):fInst [.tup xs,.ty "list"] S=.ok (.bl false) S:=rfl
open PySem
theorem cutD_drop (xs:List D) {k:Int} (h0:0≤k):cutD xs (some k) none=xs.drop k.toNat:=by
 unfold cutD
 rw [show k=((k.toNat:Nat):Int) by omega,HT.sIx_nat,HT.sIx_none,Int.toNat_natCast]
 by_cases h:k.toNat≤xs.length
 ·rw [Nat.min_eq_left h,List.take_of_length_le (by simp)]
 ·rw [Nat.min_eq_right (by omega),Nat.sub_self,List.take_zero,List.drop_of_length_le (by omega)]
open PySem PySem.Spec PyProof.Rows
theorem cAppX_ev {φ:List D→M D}{ca:CA}{ρ:Env1}{S S1:Store}{xs:List D} (e:ca ρ S=.ok xs S1):cAppX φ ca ρ S=φ xs S1:=by unfold cAppX; rw [e]
noncomputable def tabOk (K:W.Frag):Bool:=match W.tabIn K lamD with
 | some (_,T)=>(K.lookup T).isNone
 | none=>false
theorem tabOk_ex {K:W.Frag} (h:tabOk K=true):∃ c T,W.tabIn K lamD=some (c,T)∧K.lookup T=none:=by
 unfold tabOk at h
 split at h
 ·rename_i c T e
  exact ⟨c,T,e,Option.isNone_iff_eq_none.mp h⟩
 ·cases h
theorem walk_evS {l:W.OpenLaw}{q:Program}{loose:List Str}{XP:(Str→Option Value)→Heap→Prop}{YP:World→Heap→Prop}{d:DefRec}{K:Params→W.Frag}{L:Nat} (hn:l.most=some 63) (hdf:d.params.defaults=[]) (hr:Room L callerA)
  (hY:∀ (w:World) (h:Heap),YP w h→(K w.params).In h) (hrec:((PyProof.Rows.recsOf q).find? (fun e=>e.name == lamD)).isSome=true) (hTb:∀ w:World,tabOk (K w.params)=true)
  (F:∀ (w:World) (mg:Str→Option Value) (fa c T:Addr) (h:Heap),(K w.params).In h→h.Ns mainGlobals mg→mg d.name=some (.ref fa)→W.tabIn (K w.params) lamD=some (c,T) →
   ∃ fd:FuncData,(∀ (s:Shared) (u:Value),BindsTo s fd ⟨[u],[]⟩ [("_law_script",u)])∧∀ base:Heap,(K w.params).In base→base.Ns mainGlobals mg→W.CodeHd base c T→base.BuiltinsAt mg T→mainGlobals≠T→FnOk l.prog w (K w.params) mg base (CX1 l.prog w) L fa fd ["_law_script"] (spL (K w.params))) :
  W.WalkO q loose XP YP l.row.toRowW d [] (fun f vs=>PySem.call f vs):=by
 obtain ⟨dl,hdl⟩:=Option.isSome_iff_exists.mp hrec
 exact walk_ev hn hdf hr hY hdl (fun w=>tabOk_ex (hTb w)) F
noncomputable def exKs (K:W.Frag):Bool:=xoL.all fun x=>match exG K x with
 | some C=>W.excIn K C VEs "ValueError.__new__"
 | none=>false
noncomputable def exNet (K:W.Frag) (C:Addr):Bool:=xoL.all fun x=>match exG K x with
 | some D=>W.exmOne K (.ref D) (.ref C) == some true
 | none=>false
theorem ex_mg {K:W.Frag}{h:Heap}{mg:Str→Option Value} (X:K.In h) (G:h.Ns mainGlobals mg) {x:Str}{D:Addr} (e:exG K x=some D):mg x=some (.ref D):=W.mg_of X G (exG_ns e)
theorem exKs_of {K:W.Frag}{h:Heap}{mg:Str→Option Value} (X:K.In h) (G:h.Ns mainGlobals mg) (hk:exKs K=true):∀ x∈excL,∃ C,mg x=some (.ref C)∧ExcK K C:=fun x hx=>by
 have q:=List.all_eq_true.mp hk x hx
 split at q
 ·rename_i C e; exact ⟨C,ex_mg X G e,q⟩
 ·cases q
theorem exNet_of {K:W.Frag}{h:Heap}{mg:Str→Option Value}{C:Addr} (X:K.In h) (G:h.Ns mainGlobals mg) (hk:exNet K C=true):∀ x∈xoL,∀ D,exG K x=some D→mg x=some (.ref D)∧W.exmOne K (.ref D) (.ref C)=some true:=fun x hx D e=>by
 have q:=List.all_eq_true.mp hk x hx
 rw [e] at q
 exact ⟨ex_mg X G e,beq_iff_eq.mp q⟩
theorem exm_of {K:W.Frag}{h:Heap}{mg:Str→Option Value} (X:K.In h) (G:h.Ns mainGlobals mg) (xk:exAll K=true):∀ c∈xoL,∃ C,mg c=some (.ref C)∧exG K c=some C:=fun c hc=>by
 obtain ⟨C,e,_⟩:=exAll_one xk hc
 exact ⟨C,ex_mg X G e,e⟩
theorem refH_of {P:Program}{w:World}{K:W.Frag}{mg:Str→Option Value}{base h:Heap}{c y en g:Str}{st:Stmt}{fa C:Addr}{fd:FuncData}{more:List Str}{rest:List Stmt}{p1 p2 p3 p4 p5 p6 p7 q1 q2 q3 q4 q5:Pos}{j:Nat} (X:K.In h) (G:h.Ns mainGlobals mg) (F:Fun K "_law_refused" "_law_refused" st fa fd) (m:mg "_law_refused"=some (.ref fa)) (bi:Binds K fd [c] [])
  (body:defBody st=rfBody c y en g p1 p2 p3 p4 p5 p6 p7 q1 q2 q3 q4 q5 j rest) (hs:fnOk (c::y::en::more) [c] (defScope st)=true) (hl:more.length=1) (hn:(defScope st).names.lookup y=some .local∧(defScope st).names.lookup en=some .local∧(defScope st).names.lookup g=some .globalImplicit)
  (hd:(c == ("__debug__":Str))=false∧(c == ("__classdict__":Str))=false∧(en == ("__debug__":Str))=false∧(en == ("__classdict__":Str))=false∧(g == ("__debug__":Str))=false) (hm:W.nsIn K mainGlobals g=some (some (.ref C))) (hne:("_law_refused":Str)≠lamD)
  (xk:exAll K=true) (xs:exKs K=true) (xn:exNet K C=true) (xv:W.nsIn K mainGlobals "ValueError"=some none) (hB:MgOk (fun _=>none) mg)
  (hc:cSts (fun _=>none) (fun _ _ _=>.bad) 60 ⟨c::y::en::more,(defScope st).names,some "_law_refused"⟩ rest=some rfB):RefH P w K mg base:=by
 have S:=fnOk_scope hs
 have xm:=exm_of X G xk
 have v:=W.mg_none_of X G xv
 refine ⟨fun t ht=>?_,xk,xm,v⟩
 have e:t = "_law_refused":=by simpa [rfN] using ht
 subst e
 obtain ⟨a1,a2,a3⟩:=hn
 obtain ⟨b1,b2,b3,b4,b5⟩:=hd
 refine ⟨st,fa,fd,c,y,en,g,_,rest,C,F,m,bi,⟨⟨p1,p2,p3,p4,p5,p6,p7,q1,q2,q3,q4,q5,j,body⟩,S,⟨more,rfl⟩,a1,a2,a3,b1,b2,b3,b4,b5⟩,by simp [hl],W.mg_of X G hm,exNet_of X G xn,fun cdv A outer s H hr=>?_⟩
 have hX:XOk (cxOf CX0 P w K mg base (c::y::en::more) "_law_refused" (defScope st) fa cdv A outer s H E0) ⟨c::y::en::more,(defScope st).names,some "_law_refused"⟩ (fun _=>none) (fun _ _ _=>.bad) 0:={
  calm:=rfl
  N:=rfl
  nd:=S.nd
  gl:=fun x hx=>hx
  loc:=fun x hx=>hx
  cel:=fun x hx=>hx
  fre:=fun x hx=>.inr hx
  fnn:=fun _ x=>rfl
  room:=(hr.deeper _).mono (by omega)
  roomT:=fun z=>absurd (Option.some.inj z) hne
  lam:=fun z=>absurd (Option.some.inj z) hne
  tk:=fun z=>absurd (Option.some.inj z) hne
  rf:=fun z=>absurd (Option.some.inj z) hne
  xk:=xk
  xm:=xm
  xv:=v
  own:=PassesOwn.leaving
  exc:=exKs_of X G xs
  blt:=hB
  fns:=fun _ _ z=>by cases z }
 exact (s_St 60).2 _ _ hX _ _ hc
end L2
namespace My
open PySem L2
noncomputable def b_is_whole (cl:CLL):CS :=
 (sSeq (sRet (cAndV (cApp fInst (cArgs [(cVar 0),(cCon (.ty "int"))])) (cNotV (cApp fInst (cArgs [(cVar 0),(cCon (.ty "bool"))])))))
  sPass)
def Hs_is_whole (cl:Nat→CLL):Prop:=∀ n,cl (n+1) "is_whole"=runF 1 1 (b_is_whole (cl n))
noncomputable def b_is_bit (cl:CLL):CS :=
 (sSeq (sRet (cAndV (cApp (cl "is_whole") (cArgs [(cVar 0)])) (cChain (oCmp fun i j=>decide (i≤j)) (oCmp fun i j=>decide (i≤j)) (cCon (.int 0)) (cVar 0) (cCon (.int 1)))))
  sPass)
def Hs_is_bit (cl:Nat→CLL):Prop:=∀ n,cl (n+1) "is_bit"=runF 1 1 (b_is_bit (cl n))
noncomputable def is_contact_e1 (cl:CLL):C :=
 (cApp (cl "is_whole") (cArgs [(cVar 0)]))
noncomputable def b_is_contact (cl:CLL):CS :=
 (sSeq (sIf (cOrT (cNotT (cTru (cApp fInst (cArgs [(cVar 2),(cCon (.ty "tuple"))])))) (cBool (cBin oNe (cApp fLen (cArgs [(cVar 2)])) (cCon (.int 4))))) (sSeq (sRet (cCon (.bl false)))
  sPass) sPass)
  (sSeq (sIf (cNotT (cTru (cApp (fBools fun bs=>bs.all id) (cArgs [(cComp (iSeq (cVar 2)) 1 [] .one (fun _=>ret true) (is_contact_e1 cl))])))) (sSeq (sRet (cCon (.bl false)))
  sPass) sPass)
  (sSeq (sIf (cNotT (cChain3 (oCmp fun i j=>decide (i≤j)) oLt oLt (cCon (.int 0)) (cBin oIx (cVar 2) (cCon (.int 0))) (cBin oIx (cVar 2) (cCon (.int 1))) (cVar 1))) (sSeq (sRet (cCon (.bl false)))
  sPass) sPass)
  (sSeq (sRet (cAndV (cChain (oCmp fun i j=>decide (i≤j)) oLt (cCon (.int 0)) (cBin oIx (cVar 2) (cCon (.int 2))) (cVar 0)) (cApp (cl "is_bit") (cArgs [(cBin oIx (cVar 2) (cCon (.int 3)))]))))
  sPass))))
def Hs_is_contact (cl:Nat→CLL):Prop:=∀ n,cl (n+1) "is_contact"=runF 3 3 (b_is_contact (cl n))
noncomputable def is_net_e1 (cl:CLL):C :=
 (cApp (cl "is_contact") (cArgs [(cVar 1),(cVar 2),(cVar 0)]))
noncomputable def b_is_net (cl:CLL):CS :=
 (sSeq (sIf (cOrT (cNotT (cTru (cApp fInst (cArgs [(cVar 0),(cCon (.ty "tuple"))])))) (cBool (cBin oNe (cApp fLen (cArgs [(cVar 0)])) (cCon (.int 3))))) (sSeq (sRet (cCon (.bl false)))
  sPass) sPass)
  (sSeq (sAsg (cBin oIx (cVar 0) (cCon (.int 0))) (gN 1))
  (sSeq (sAsg (cBin oIx (cVar 0) (cCon (.int 1))) (gN 2))
  (sSeq (sAsg (cBin oIx (cVar 0) (cCon (.int 2))) (gN 3))
  (sSeq (sIf (cOrT (cNotT (cTru (cApp (cl "is_whole") (cArgs [(cVar 1)])))) (cNotT (cBool (cChain (oCmp fun i j=>decide (i≤j)) (oCmp fun i j=>decide (i≤j)) (cCon (.int 1)) (cVar 1) (cCon (.int 4)))))) (sSeq (sRet (cCon (.bl false)))
  sPass) sPass)
  (sSeq (sIf (cOrT (cNotT (cTru (cApp (cl "is_whole") (cArgs [(cVar 2)])))) (cNotT (cBool (cChain (oCmp fun i j=>decide (i≤j)) (oCmp fun i j=>decide (i≤j)) (cCon (.int 2)) (cVar 2) (cCon (.int 7)))))) (sSeq (sRet (cCon (.bl false)))
  sPass) sPass)
  (sSeq (sIf (cOrT (cNotT (cTru (cApp fInst (cArgs [(cVar 3),(cCon (.ty "tuple"))])))) (cBool (cBin (oCmp fun i j=>decide (j<i)) (cApp fLen (cArgs [(cVar 3)])) (cCon (.int 16))))) (sSeq (sRet (cCon (.bl false)))
  sPass) sPass)
  (sSeq (sRet (cApp (fBools fun bs=>bs.all id) (cArgs [(cComp (iSeq (cVar 3)) 1 [1,2] .one (fun _=>ret true) (is_net_e1 cl))])))
  sPass))))))))
def Hs_is_net (cl:Nat→CLL):Prop:=∀ n,cl (n+1) "is_net"=runF 1 4 (b_is_net (cl n))
noncomputable def b_contact_text (cl:CLL):CS :=
 (sSeq (sAsg (cBin oIx (cVar 0) (cCon (.int 0))) (gN 1))
  (sSeq (sAsg (cBin oIx (cVar 0) (cCon (.int 1))) (gN 2))
  (sSeq (sAsg (cBin oIx (cVar 0) (cCon (.int 2))) (gN 3))
  (sSeq (sAsg (cIf (cBool (cBin oEq (cBin oIx (cVar 0) (cCon (.int 3))) (cCon (.int 1)))) (cCon (.str (Str.ofString "+"))) (cCon (.str (Str.ofString "-")))) (gN 4))
  (sSeq (sRet (cJS [(cFmt (cVar 1)),(cCon (.str (Str.ofString "-"))),(cFmt (cVar 2)),(cCon (.str (Str.ofString "/"))),(cFmt (cVar 3)),(cFmt (cVar 4))] Str.empty))
  sPass)))))
def Hs_contact_text (cl:Nat→CLL):Prop:=∀ n,cl (n+1) "contact_text"=runF 1 5 (b_contact_text (cl n))
noncomputable def net_text_e1 (cl:CLL):C :=
 (cApp (cl "contact_text") (cArgs [(cVar 0)]))
noncomputable def b_net_text (cl:CLL):CS :=
 (sSeq (sAsg (cBin oIx (cVar 0) (cCon (.int 0))) (gN 1))
  (sSeq (sAsg (cBin oIx (cVar 0) (cCon (.int 1))) (gN 2))
  (sSeq (sRet (cMeth "str" mJoin (cCon (.str (Str.ofString " "))) (cArgs [(cBin oAdd (cLst (cArgs [(cJS [(cFmt (cVar 1)),(cCon (.str (Str.ofString " "))),(cFmt (cVar 2)),(cCon (.str (Str.ofString ":")))] Str.empty)])) (cComp (iSeq (cBin oIx (cVar 0) (cCon (.int 2)))) 1 [] .one (fun _=>ret true) (net_text_e1 cl)))])))
  sPass)))
def Hs_net_text (cl:Nat→CLL):Prop:=∀ n,cl (n+1) "net_text"=runF 1 3 (b_net_text (cl n))
noncomputable def b_figure (cl:CLL):CS :=
 (sSeq (sRet (cMeth "str" mFind (cCon (.str (Str.ofString "0123456789"))) (cArgs [(cVar 0)])))
  sPass)
def Hs_figure (cl:Nat→CLL):Prop:=∀ n,cl (n+1) "figure"=runF 1 1 (b_figure (cl n))
noncomputable def has_lengths_of_net_e1 (cl:CLL):C :=
 (cBin oEq (cApp fLen (cArgs [(cVar 0)])) (cCon (.int 6)))
noncomputable def b_has_lengths_of_net (cl:CLL):CS :=
 (sSeq (sIf (cOrT (cBool (cBin oLt (cApp fLen (cArgs [(cVar 0)])) (cCon (.int 2)))) (cOrT (cBool (cBin oNe (cApp fLen (cArgs [(cBin oIx (cVar 0) (cCon (.int 0)))])) (cCon (.int 1)))) (cBool (cBin oNe (cApp fLen (cArgs [(cBin oIx (cVar 0) (cCon (.int 1)))])) (cCon (.int 2)))))) (sSeq (sRet (cCon (.bl false)))
  sPass) sPass)
  (sSeq (sRet (cApp (fBools fun bs=>bs.all id) (cArgs [(cComp (iSeq (cSl oSl (cVar 0) (cPart (cCon (.int 2))) cNoPart)) 1 [] .one (fun _=>ret true) (has_lengths_of_net_e1 cl))])))
  sPass))
def Hs_has_lengths_of_net (cl:Nat→CLL):Prop:=∀ n,cl (n+1) "has_lengths_of_net"=runF 1 1 (b_has_lengths_of_net (cl n))
noncomputable def b_contact_read (cl:CLL):CS :=
 (sSeq (sRet (cTup (cArgs [(cApp (cl "figure") (cArgs [(cBin oIx (cVar 0) (cCon (.int 0)))])),(cApp (cl "figure") (cArgs [(cBin oIx (cVar 0) (cCon (.int 2)))])),(cApp (cl "figure") (cArgs [(cBin oIx (cVar 0) (cCon (.int 4)))])),(cIf (cBool (cBin oEq (cBin oIx (cVar 0) (cCon (.int 5))) (cCon (.str (Str.ofString "+"))))) (cCon (.int 1)) (cCon (.int 0)))])))
  sPass)
def Hs_contact_read (cl:Nat→CLL):Prop:=∀ n,cl (n+1) "contact_read"=runF 1 1 (b_contact_read (cl n))
noncomputable def net_read_e1 (cl:CLL):C :=
 (cApp (cl "contact_read") (cArgs [(cVar 0)]))
noncomputable def b_net_read (cl:CLL):CS :=
 (sSeq (sIf (cNotT (cTru (cApp fInst (cArgs [(cVar 0),(cCon (.ty "str"))])))) (sSeq (sRaise "BadNote")
  sPass) sPass)
  (sSeq (sAsg (cMeth "str" mSplit (cVar 0) (cArgs [(cCon (.str (Str.ofString " ")))])) (gN 1))
  (sSeq (sIf (cNotT (cTru (cApp (cl "has_lengths_of_net") (cArgs [(cVar 1)])))) (sSeq (sRaise "BadNote")
  sPass) sPass)
  (sSeq (sAsg (cTup (cArgs [(cApp (cl "figure") (cArgs [(cBin oIx (cVar 1) (cCon (.int 0)))])),(cApp (cl "figure") (cArgs [(cBin oIx (cBin oIx (cVar 1) (cCon (.int 1))) (cCon (.int 0)))])),(cApp fTuple (cArgs [(cComp (iSeq (cSl oSl (cVar 1) (cPart (cCon (.int 2))) cNoPart)) 1 [] .one (fun _=>ret true) (net_read_e1 cl))]))])) (gN 2))
  (sSeq (sIf (cOrT (cNotT (cTru (cApp (cl "is_net") (cArgs [(cVar 2)])))) (cBool (cBin oNe (cApp (cl "net_text") (cArgs [(cVar 2)])) (cVar 0)))) (sSeq (sRaise "BadNote")
  sPass) sPass)
  (sSeq (sRet (cVar 2))
  sPass))))))
def Hs_net_read (cl:Nat→CLL):Prop:=∀ n,cl (n+1) "net_read"=runF 1 3 (b_net_read (cl n))
noncomputable def b_law_cell_at (cl:CLL):CS :=
 (sSeq (sIf (cBool (cBin oLt (cVar 1) (cApp fLen (cArgs [(cVar 0)])))) (sSeq (sRet (cBin oIx (cVar 0) (cVar 1)))
  sPass) sPass)
  (sSeq (sRet (cCon (.int 0)))
  sPass))
def Hs_law_cell_at (cl:Nat→CLL):Prop:=∀ n,cl (n+1) "_law_cell_at"=runF 2 2 (b_law_cell_at (cl n))
noncomputable def b_law_state (cl:CLL):CS :=
 (sSeq (sAsg (cApp (cl "_law_cell_at") (cArgs [(cVar 0),(cVar 1)])) (gN 2))
  (sSeq (sIf (cBool (cBin (oCmp fun i j=>decide (j≤i)) (cVar 2) (cBin oPow (cCon (.int 10)) (cCon (.int 18))))) (sSeq (sRet (cLst (cArgs [(cBin (oInt fun i j=>i - j) (cVar 2) (cBin oPow (cCon (.int 10)) (cCon (.int 18)))),(cCon (.bl true))])))
  sPass) sPass)
  (sSeq (sRet (cLst (cArgs [(cBin oMod (cVar 2) (cCon (.int 2147483647))),(cCon (.bl false))])))
  sPass)))
def Hs_law_state (cl:Nat→CLL):Prop:=∀ n,cl (n+1) "_law_state"=runF 2 3 (b_law_state (cl n))
noncomputable def b_law_take (cl:CLL):CS :=
 (sSeq (sIf (cTru (cBin oIx (cVar 0) (cCon (.int 1)))) (sSeq (sAsg (cBin oMod (cBin oIx (cVar 0) (cCon (.int 0))) (cVar 1)) (gN 2))
  (sSeq (sAsg (cBin oDiv (cBin oIx (cVar 0) (cCon (.int 0))) (cVar 1)) (gS (cVar 0) (cCon (.int 0))))
  (sSeq (sRet (cVar 2))
  sPass))) sPass)
  (sSeq (sAsg (cBin oMod (cBin oAdd (cBin oMul (cBin oIx (cVar 0) (cCon (.int 0))) (cCon (.int 48271))) (cCon (.int 29))) (cCon (.int 2147483647))) (gS (cVar 0) (cCon (.int 0))))
  (sSeq (sAsg (cBin oMod (cBin oAdd (cBin oAdd (cBin oMul (cBin oIx (cVar 0) (cCon (.int 0))) (cBin oIx (cVar 0) (cCon (.int 0)))) (cBin oMul (cCon (.int 39373)) (cBin oIx (cVar 0) (cCon (.int 0))))) (cCon (.int 7))) (cCon (.int 2147483629))) (gN 3))
  (sSeq (sAsg (cBin oMod (cBin oAdd (cBin oMul (cVar 3) (cVar 3)) (cBin oMul (cCon (.int 16807)) (cVar 3))) (cCon (.int 2147483587))) (gN 3))
  (sSeq (sRet (cBin oMod (cBin oDiv (cVar 3) (cCon (.int 8))) (cVar 1)))
  sPass)))))
def Hs_law_take (cl:Nat→CLL):Prop:=∀ n,cl (n+1) "_law_take"=runF 2 4 (b_law_take (cl n))
noncomputable def b_law_ends (cl:CLL):CS :=
 (sSeq (sAsg (cBin oAdd (cBin oAdd (cLst (cArgs [(cCon (.int 0))])) (cApp fListR (cArgs [(cCon (.int 2)),(cVar 1)]))) (cLst (cArgs [(cCon (.int 1))]))) (gN 2))
  (sSeq (sAsg (cApp (cl "_law_take") (cArgs [(cVar 0),(cBin (oInt fun i j=>i - j) (cVar 1) (cCon (.int 1)))])) (gN 3))
  (sSeq (sAsg (cBin oAdd (cVar 3) (cCon (.int 1))) (gN 4))
  (sSeq (sIf (cBool (cBin oEq (cApp (cl "_law_take") (cArgs [(cVar 0),(cCon (.int 3))])) (cCon (.int 0)))) (sSeq (sAsg (cBin oAdd (cBin oAdd (cVar 3) (cCon (.int 1))) (cApp (cl "_law_take") (cArgs [(cVar 0),(cBin (oInt fun i j=>i - j) (cBin (oInt fun i j=>i - j) (cVar 1) (cCon (.int 1))) (cVar 3))]))) (gN 4))
  sPass) sPass)
  (sSeq (sRet (cTup (cArgs [(cApp fMin (cArgs [(cBin oIx (cVar 2) (cVar 3)),(cBin oIx (cVar 2) (cVar 4))])),(cApp fMax (cArgs [(cBin oIx (cVar 2) (cVar 3)),(cBin oIx (cVar 2) (cVar 4))]))])))
  sPass)))))
def Hs_law_ends (cl:Nat→CLL):Prop:=∀ n,cl (n+1) "_law_ends"=runF 2 5 (b_law_ends (cl n))
noncomputable def law_net_l1 (cl:CLL):CS :=
 (sSeq (sExpr (cMeth "list" (mList gInsert) (cVar 11) (cArgs [(cApp (cl "_law_take") (cArgs [(cVar 0),(cBin oAdd (cApp fLen (cArgs [(cVar 11)])) (cCon (.int 1)))])),(cVar 12)])))
  sPass)
noncomputable def law_net_l2 (cl:CLL):CS :=
 (sSeq (sExpr (cMeth "list" (mList gAppend) (cVar 6) (cArgs [(cBin oAdd (cApp (cl "_law_ends") (cArgs [(cVar 0),(cVar 5)])) (cTup (cArgs [(cApp (cl "_law_take") (cArgs [(cVar 0),(cVar 4)])),(cApp (cl "_law_take") (cArgs [(cVar 0),(cCon (.int 2))]))])))])))
  sPass)
noncomputable def law_net_l3 (cl:CLL):CS :=
 (sSeq (sExpr (cMeth "list" (mList gAppend) (cVar 6) (cArgs [(cTup (cArgs [(cApp fMin (cArgs [(cVar 8),(cVar 9)])),(cApp fMax (cArgs [(cVar 8),(cVar 9)])),(cApp (cl "_law_take") (cArgs [(cVar 0),(cVar 4)])),(cApp (cl "_law_take") (cArgs [(cVar 0),(cCon (.int 2))]))]))])))
  sPass)
noncomputable def b_law_net (cl:CLL):CS :=
 (sSeq (sAsg (cBin oAdd (cCon (.int 1)) (cApp (cl "_law_take") (cArgs [(cVar 0),(cVar 1)]))) (gN 4))
  (sSeq (sAsg (cBin oAdd (cCon (.int 2)) (cApp (cl "_law_take") (cArgs [(cVar 0),(cBin (oInt fun i j=>i - j) (cVar 2) (cCon (.int 1)))]))) (gN 5))
  (sSeq (sAsg (cLst (cArgs [])) (gN 6))
  (sSeq (sAsg (cBin oAdd (cBin oAdd (cLst (cArgs [(cCon (.int 0))])) (cApp fListR (cArgs [(cCon (.int 2)),(cVar 5)]))) (cLst (cArgs [(cCon (.int 1))]))) (gN 7))
  (sSeq (sIf (cAndT (cBool (cBin oEq (cApp (cl "_law_take") (cArgs [(cVar 0),(cCon (.int 2))])) (cCon (.int 0)))) (cBool (cBin (oCmp fun i j=>decide (i≤j)) (cBin (oInt fun i j=>i - j) (cVar 5) (cCon (.int 1))) (cVar 3)))) (sSeq (sFor (iZipL (cArgs [(cVar 7),(cSl oSl (cVar 7) (cPart (cCon (.int 1))) cNoPart)])) (gT [(gN 8),(gN 9)]) (law_net_l3 cl))
  sPass) sPass)
  (sSeq (sFor (iRange1 (cArgs [(cApp (cl "_law_take") (cArgs [(cVar 0),(cBin oAdd (cBin (oInt fun i j=>i - j) (cVar 3) (cApp fLen (cArgs [(cVar 6)]))) (cCon (.int 1)))]))])) (gN 10) (law_net_l2 cl))
  (sSeq (sAsg (cLst (cArgs [])) (gN 11))
  (sSeq (sFor (iSeq (cVar 6)) (gN 12) (law_net_l1 cl))
  (sSeq (sRet (cTup (cArgs [(cVar 4),(cVar 5),(cApp fTuple (cArgs [(cVar 11)]))])))
  sPass)))))))))
def Hs_law_net (cl:Nat→CLL):Prop:=∀ n,cl (n+1) "_law_net"=runF 4 13 (b_law_net (cl n))
noncomputable def law_net_text_l1 (cl:CLL):CS :=
 (sSeq (sExpr (cMeth "list" (mList gAppend) (cVar 1) (cArgs [(cBin oAdd (cBin oAdd (cBin oAdd (cBin oAdd (cBin oAdd (cApp fStr (cArgs [(cVar 2)])) (cCon (.str (Str.ofString "-")))) (cApp fStr (cArgs [(cVar 3)]))) (cCon (.str (Str.ofString "/")))) (cApp fStr (cArgs [(cVar 4)]))) (cBin oIx (cLst (cArgs [(cCon (.str (Str.ofString "-"))),(cCon (.str (Str.ofString "+")))])) (cVar 5)))])))
  sPass)
noncomputable def b_law_net_text (cl:CLL):CS :=
 (sSeq (sAsg (cLst (cArgs [(cApp fStr (cArgs [(cBin oIx (cVar 0) (cCon (.int 0)))])),(cBin oAdd (cApp fStr (cArgs [(cBin oIx (cVar 0) (cCon (.int 1)))])) (cCon (.str (Str.ofString ":"))))])) (gN 1))
  (sSeq (sFor (iSeq (cBin oIx (cVar 0) (cCon (.int 2)))) (gT [(gN 2),(gN 3),(gN 4),(gN 5)]) (law_net_text_l1 cl))
  (sSeq (sRet (cMeth "str" mJoin (cCon (.str (Str.ofString " "))) (cArgs [(cVar 1)])))
  sPass)))
def Hs_law_net_text (cl:Nat→CLL):Prop:=∀ n,cl (n+1) "_law_net_text"=runF 1 6 (b_law_net_text (cl n))
noncomputable def law_contacts_in_l4 (cl:CLL):CS :=
 (sSeq (sAsg (cBin oAdd (cBin oAdd (cBin oAdd (cBin oAdd (cBin oAdd (cApp fStr (cArgs [(cVar 3)])) (cCon (.str (Str.ofString "-")))) (cApp fStr (cArgs [(cVar 4)]))) (cCon (.str (Str.ofString "/")))) (cApp fStr (cArgs [(cVar 5)]))) (cBin oIx (cLst (cArgs [(cCon (.str (Str.ofString "-"))),(cCon (.str (Str.ofString "+")))])) (cVar 6))) (gN 7))
  (sSeq (sAsg (cTup (cArgs [(cVar 3),(cVar 4),(cVar 5),(cVar 6)])) (gS (cVar 2) (cVar 7)))
  sPass))
noncomputable def law_contacts_in_l3 (cl:CLL):CS :=
 (sSeq (sFor (iSeq (cTup (cArgs [(cCon (.int 0)),(cCon (.int 1))]))) (gN 6) (law_contacts_in_l4 cl))
  sPass)
noncomputable def law_contacts_in_l2 (cl:CLL):CS :=
 (sSeq (sFor (iRange1 (cArgs [(cVar 0)])) (gN 5) (law_contacts_in_l3 cl))
  sPass)
noncomputable def law_contacts_in_l1 (cl:CLL):CS :=
 (sSeq (sFor (iRange2 (cArgs [(cBin oAdd (cVar 3) (cCon (.int 1))),(cVar 1)])) (gN 4) (law_contacts_in_l2 cl))
  sPass)
noncomputable def b_law_contacts_in (cl:CLL):CS :=
 (sSeq (sAsg cDNew (gN 2))
  (sSeq (sFor (iRange1 (cArgs [(cVar 1)])) (gN 3) (law_contacts_in_l1 cl))
  (sSeq (sRet (cVar 2))
  sPass)))
def Hs_law_contacts_in (cl:Nat→CLL):Prop:=∀ n,cl (n+1) "_law_contacts_in"=runF 2 8 (b_law_contacts_in (cl n))
noncomputable def law_due_v3_e1 (cl:CLL):C :=
 (cBin oIx (cVar 1) (cVar 0))
noncomputable def law_due_v3_t2 (cl:CLL):CT :=
 (cBool (cBin (oIn true) (cVar 0) (cVar 1)))
noncomputable def law_due_v3_e2 (cl:CLL):C :=
 (cVar 0)
noncomputable def b_law_due_v3 (cl:CLL):CS :=
 (sSeq (sAsg (cMeth "str" mSplit (cVar 0) (cArgs [(cCon (.str (Str.ofString " ")))])) (gN 1))
  (sSeq (sIf (cOrT (cBool (cBin oLt (cApp fLen (cArgs [(cVar 1)])) (cCon (.int 2)))) (cBool (cBin (oIn true) (cBin oIx (cVar 1) (cCon (.int 0))) (cLst (cArgs [(cCon (.str (Str.ofString "1"))),(cCon (.str (Str.ofString "2"))),(cCon (.str (Str.ofString "3"))),(cCon (.str (Str.ofString "4")))]))))) (sSeq (sRet (cCon .non))
  sPass) sPass)
  (sSeq (sIf (cOrT (cBool (cBin (oIn true) (cBin oIx (cVar 1) (cCon (.int 1))) (cLst (cArgs [(cCon (.str (Str.ofString "2:"))),(cCon (.str (Str.ofString "3:"))),(cCon (.str (Str.ofString "4:"))),(cCon (.str (Str.ofString "5:"))),(cCon (.str (Str.ofString "6:"))),(cCon (.str (Str.ofString "7:")))])))) (cBool (cBin (oCmp fun i j=>decide (j<i)) (cApp fLen (cArgs [(cVar 1)])) (cCon (.int 18))))) (sSeq (sRet (cCon .non))
  sPass) sPass)
  (sSeq (sAsg (cApp (cl "_law_contacts_in") (cArgs [(cApp fInt (cArgs [(cBin oIx (cVar 1) (cCon (.int 0)))])),(cApp fInt (cArgs [(cBin oIx (cBin oIx (cVar 1) (cCon (.int 1))) (cCon (.int 0)))]))])) (gN 2))
  (sSeq (sIf (cBool (cBin oNe (cComp (iSeq (cSl oSl (cVar 1) (cPart (cCon (.int 2))) cNoPart)) 1 [2] .one (law_due_v3_t2 cl) (law_due_v3_e2 cl)) (cLst (cArgs [])))) (sSeq (sRet (cCon .non))
  sPass) sPass)
  (sSeq (sRet (cTup (cArgs [(cApp fInt (cArgs [(cBin oIx (cVar 1) (cCon (.int 0)))])),(cApp fInt (cArgs [(cBin oIx (cBin oIx (cVar 1) (cCon (.int 1))) (cCon (.int 0)))])),(cApp fTuple (cArgs [(cComp (iSeq (cSl oSl (cVar 1) (cPart (cCon (.int 2))) cNoPart)) 1 [2] .one (fun _=>ret true) (law_due_v3_e1 cl))]))])))
  sPass))))))
def Hs_law_due_v3 (cl:Nat→CLL):Prop:=∀ n,cl (n+1) "_law_due"=runF 1 3 (b_law_due_v3 (cl n))
noncomputable def b_law_bent_v9 (cl:CLL):CS :=
 (sSeq (sAsg (cApp (cl "_law_take") (cArgs [(cVar 0),(cCon (.int 9))])) (gN 2))
  (sSeq (sAsg (cApp (cl "_law_take") (cArgs [(cVar 0),(cBin oAdd (cApp fLen (cArgs [(cVar 1)])) (cCon (.int 1)))])) (gN 3))
  (sSeq (sAsg (cBin oIx (cCon (.str (Str.ofString "01234567 :-+/.,x"))) (cApp (cl "_law_take") (cArgs [(cVar 0),(cCon (.int 16))]))) (gN 4))
  (sSeq (sIf (cBool (cBin oLt (cVar 2) (cCon (.int 4)))) (sSeq (sRet (cBin oIx (cLst (cArgs [(cBin oAdd (cSl oSl (cVar 1) cNoPart (cPart (cVar 3))) (cSl oSl (cVar 1) (cPart (cBin oAdd (cVar 3) (cCon (.int 1)))) cNoPart)),(cBin oAdd (cBin oAdd (cSl oSl (cVar 1) cNoPart (cPart (cVar 3))) (cVar 4)) (cSl oSl (cVar 1) (cPart (cVar 3)) cNoPart)),(cBin oAdd (cBin oAdd (cSl oSl (cVar 1) cNoPart (cPart (cVar 3))) (cVar 4)) (cSl oSl (cVar 1) (cPart (cBin oAdd (cVar 3) (cCon (.int 1)))) cNoPart)),(cVar 1)])) (cVar 2)))
  sPass) sPass)
  (sSeq (sAsg (cMeth "str" mSplit (cVar 1) (cArgs [(cCon (.str (Str.ofString " ")))])) (gN 5))
  (sSeq (sAsg (cApp (cl "_law_take") (cArgs [(cVar 0),(cApp fLen (cArgs [(cVar 5)]))])) (gN 6))
  (sSeq (sAsg (cApp (cl "_law_take") (cArgs [(cVar 0),(cApp fLen (cArgs [(cVar 5)]))])) (gN 7))
  (sSeq (sIf (cBool (cBin oEq (cVar 2) (cCon (.int 4)))) (sSeq (sExpr (cMeth "list" (mList gPopAt) (cVar 5) (cArgs [(cVar 6)])))
  sPass) (sSeq (sIf (cBool (cBin oEq (cVar 2) (cCon (.int 5)))) (sSeq (sExpr (cMeth "list" (mList gInsert) (cVar 5) (cArgs [(cVar 7),(cBin oIx (cVar 5) (cVar 6))])))
  sPass) (sSeq (sIf (cBool (cBin oEq (cVar 2) (cCon (.int 6)))) (sSeq (sAsg (cTup (cArgs [(cBin oIx (cVar 5) (cVar 7)),(cBin oIx (cVar 5) (cVar 6))])) (gT [(gS (cVar 5) (cVar 6)),(gS (cVar 5) (cVar 7))]))
  sPass) (sSeq (sAsg (cLst (cArgs [(cCon (.str (Str.ofString "0-1/0+"))),(cCon (.str (Str.ofString "0-1/0-"))),(cCon (.str (Str.ofString "1-0/0+"))),(cCon (.str (Str.ofString "0-0/0+"))),(cCon (.str (Str.ofString "0-6/3+"))),(cCon (.str (Str.ofString ""))),(cCon (.str (Str.ofString "7:"))),(cCon (.str (Str.ofString "8:")))])) (gN 8))
  (sSeq (sAsg (cBin oIx (cBin oAdd (cVar 8) (cLst (cArgs [(cCon (.str (Str.ofString "1:"))),(cCon (.str (Str.ofString "4"))),(cCon (.str (Str.ofString "5"))),(cCon (.str (Str.ofString "0"))),(cCon (.str (Str.ofString "0-1/0"))),(cCon (.str (Str.ofString "0-1/9+")))]))) (cApp (cl "_law_take") (cArgs [(cVar 0),(cCon (.int 14))]))) (gS (cVar 5) (cVar 6)))
  sPass)))
  sPass))
  sPass))
  (sSeq (sRet (cMeth "str" mJoin (cCon (.str (Str.ofString " "))) (cArgs [(cVar 5)])))
  sPass)))))))))
def Hs_law_bent_v9 (cl:Nat→CLL):Prop:=∀ n,cl (n+1) "_law_bent"=runF 2 9 (b_law_bent_v9 (cl n))
noncomputable def b_law_right_v13 (cl:CLL):CS :=
 (sSeq (sIf (cBool (cBin oIs (cVar 1) (cCon .non))) (sSeq (sRet (cBin oEq (cRefuse lamD 4 rfB [0] (cAppX (cl "net_read") (cArgs [(cVar 0)]))) (cLst (cArgs [(cCon (.int 4))]))))
  sPass) sPass)
  (sSeq (sRet (cBin oEq (cApp (cl "net_read") (cArgs [(cVar 0)])) (cVar 1)))
  sPass))
def Hs_law_right_v13 (cl:Nat→CLL):Prop:=∀ n,cl (n+1) "_law_right"=runF 2 2 (b_law_right_v13 (cl n))
noncomputable def law_v37_l2 (cl:CLL):CS :=
 (sSeq (sIf (cNotT (cTru (cApp (cl "_law_right") (cArgs [(cVar 3),(cApp (cl "_law_due") (cArgs [(cVar 3)]))])))) (sSeq (sRet (cCon (.bl false)))
  sPass) sPass)
  (sSeq (sAsg (cApp (cl "_law_bent") (cArgs [(cVar 2),(cVar 3)])) (gN 3))
  sPass))
noncomputable def law_v37_l1 (cl:CLL):CS :=
 (sSeq (sAsg (cApp (cl "_law_state") (cArgs [(cVar 0),(cVar 1)])) (gN 2))
  (sSeq (sAsg (cApp (cl "_law_net_text") (cArgs [(cApp (cl "_law_net") (cArgs [(cVar 2),(cCon (.int 4)),(cCon (.int 7)),(cCon (.int 16))]))])) (gN 3))
  (sSeq (sFor (iRange1 (cArgs [(cCon (.int 3))])) (gN 4) (law_v37_l2 cl))
  (sSeq (sAsg (cBin oIx (cLst (cArgs [(cCon .non),(cCon (.int 7)),(cTup (cArgs [(cCon (.int 0)),(cCon (.int 1))])),(cLst (cArgs [(cCon (.str (Str.ofString "1 2:")))])),(cCon (.bl true)),cDNew,(cTup (cArgs []))])) (cApp (cl "_law_take") (cArgs [(cVar 2),(cCon (.int 7))]))) (gN 5))
  (sSeq (sIf (cNotT (cTru (cApp (cl "_law_right") (cArgs [(cVar 5),(cCon .non)])))) (sSeq (sRet (cCon (.bl false)))
  sPass) sPass)
  sPass)))))
noncomputable def b_law_v37 (cl:CLL):CS :=
 (sSeq (sFor (iRange1 (cArgs [(cApp fMax (cArgs [(cCon (.int 1)),(cApp fMin (cArgs [(cApp fLen (cArgs [(cVar 0)])),(cCon (.int 10))]))]))])) (gN 1) (law_v37_l1 cl))
  (sSeq (sRet (cCon (.bl true)))
  sPass))
def Hs_law_v37 (cl:Nat→CLL):Prop:=∀ n,cl (n+1) "law"=runF 1 6 (b_law_v37 (cl n))
variable {cl:Nat→CLL}
theorem cell_spec (h:Hs_law_cell_at cl) (n:Nat) (ns:List Int) (k:Int) (hk:0≤k) (S:Store):∃ c,cl (n+1) "_law_cell_at" [.rol (ns.map D.int),.int k] S=.ok (.int c) S:=by
 by_cases hl:k<ns.length
 ·refine ⟨ns[k.toNat]'(by omega),?_⟩
  have e:atI (ns.map D.int) k=some (.int (ns[k.toNat]'(by omega))):=by
   have q:=atI_nat (xs:=ns.map D.int) (j:=k.toNat) (v:=.int (ns[k.toNat]'(by omega))) (by rw [List.getElem?_map,List.getElem?_eq_getElem (by omega)]; rfl)
   rw [show ((k.toNat:Nat):Int)=k by omega] at q
   exact q
  rw [h]
  refine run_rt rfl ?_
  simp [b_law_cell_at,startE,hl,e]
 ·refine ⟨0,?_⟩
  rw [h]
  refine run_rt rfl ?_
  simp [b_law_cell_at,startE,hl]
def StOk (S:Store) (i:Nat):Prop:=∃ s b,lstAt S i=some [.int s,.bl b]∧(b=false→0≤s∧s<2147483647)
theorem StOk.lt {S:Store}{i:Nat} (h:StOk S i):i<S.length:=by
 obtain ⟨s,b,e,_⟩:=h
 exact lstAt_lt e
theorem StOk.ex {S S':Store}{i:Nat} (h:StOk S i) (e:Ex S S'):StOk S' i:=by
 obtain ⟨s,b,q,r⟩:=h
 exact ⟨s,b,e.lst q (fun z=>z),r⟩
theorem state_spec (h:Hs_law_state cl) (hc:Hs_law_cell_at cl) (n:Nat) (ns:List Int) (k:Int) (hk:0≤k) (S:Store):∃ S1,cl (n+2) "_law_state" [.rol (ns.map D.int),.int k] S=.ok (.lst S.length) S1∧Ex S S1∧StOk S1 S.length:=by
 obtain ⟨c,ec⟩:=cell_spec hc n ns k hk S
 rw [show n+2=(n+1)+1 from rfl,h]
 by_cases hb:(1000000000000000000:Int)≤c
 ·refine ⟨S++[.lst [.int (c - 1000000000000000000),.bl true]],run_rt rfl ?_,ex_app _ _,_,_,lstAt_new _ _,fun z=>by cases z⟩
  simp [b_law_state,startE,ec,hb]
 ·refine ⟨S++[.lst [.int (c % 2147483647),.bl false]],run_rt rfl ?_,ex_app _ _,_,_,lstAt_new _ _,fun _=>⟨Int.emod_nonneg _ (by decide),Int.emod_lt_of_pos _ (by decide)⟩⟩
  simp [b_law_state,startE,ec,hb]
theorem mulOk_r {i j:Int} (h1:-18446744073709551616<j) (h2:j<18446744073709551616):mulOk i j=true:=by
 unfold mulOk; simp [h1,h2]
@[simp] theorem ixN_two0:ixN 2 0=some 0:=rfl
inductive TakeR (c:CLL) (S:Store) (i:Nat) (m:Int):Prop
 | mk (r:Int) (S1:Store) (e:c "_law_take" [.lst i,.int m] S=.ok (.int r) S1) (a:0≤r) (b:r<m) (k:Kp (·=i) S S1) (l:S1.length=S.length) (st:StOk S1 i)
theorem take_spec (h:Hs_law_take cl) (n:Nat) {S:Store}{i:Nat} (hS:StOk S i) {m:Int} (m0:0<m) (m1:m<1073741824):TakeR (cl (n+1)) S i m:=by
 obtain ⟨s,b,hs,hb⟩:=hS
 have e0:=oIx_lst hs
 cases b with
 | true =>
  refine ⟨s % m,S.set i (.lst [.int (s / m),.bl true]),?_,Int.emod_nonneg _ (by omega),Int.emod_lt_of_pos _ m0,kp_set _ _,by simp,⟨_,_,lstAt_set hs,fun z=>by cases z⟩⟩
  rw [h]
  refine run_rt rfl ?_
  simp [b_law_take,startE,e0,m0,m1,oSet_lst hs]
 | false =>
  obtain ⟨s0,s1⟩:=hb rfl
  generalize hz:(s*48271+29) % 2147483647=z
  have z0:0≤z:=by rw [← hz]; exact Int.emod_nonneg _ (by decide)
  have z1:z<2147483647:=by rw [← hz]; exact Int.emod_lt_of_pos _ (by decide)
  generalize hy:(z*z+39373*z+7) % 2147483629=y
  have y0:0≤y:=by rw [← hy]; exact Int.emod_nonneg _ (by decide)
  have y1:y<2147483629:=by rw [← hy]; exact Int.emod_lt_of_pos _ (by decide)
  generalize hx:(y*y+16807*y) % 2147483587=x
  refine ⟨x / 8 % m,S.set i (.lst [.int z,.bl false]),?_,Int.emod_nonneg _ (by omega),Int.emod_lt_of_pos _ m0,kp_set _ _,by simp,⟨_,_,lstAt_set hs,fun _=>⟨z0,z1⟩⟩⟩
  rw [h]
  refine run_rt rfl ?_
  have e1:=oIx_lst (lstAt_set (ys:=[.int z,.bl false]) hs)
  have k1:mulOk s 48271=true:=mulOk_r (by decide) (by decide)
  have k2:mulOk z z=true:=mulOk_r (by omega) (by omega)
  have k3:mulOk 39373 z=true:=mulOk_r (by omega) (by omega)
  have k4:mulOk y y=true:=mulOk_r (by omega) (by omega)
  have k5:mulOk 16807 y=true:=mulOk_r (by omega) (by omega)
  simp [b_law_take,startE,e0,oSet_lst hs,k1,hz,e1,k2,k3,hy,k4,k5,hx,m0]
structure Ct where
 a:Int
 b:Int
 k:Int
 o:Int
 deriving DecidableEq
noncomputable def Ct.d (c:Ct):D:=.tup [.int c.a,.int c.b,.int c.k,.int c.o]
def Ct.ok (sw pl:Int) (c:Ct):Prop:=0≤c.a∧c.a<c.b∧c.b<pl∧0≤c.k∧c.k<sw∧0≤c.o∧c.o<2
structure Net where
 sw:Int
 pl:Int
 cs:List Ct
noncomputable def Net.d (n:Net):D:=.tup [.int n.sw,.int n.pl,.tup (n.cs.map Ct.d)]
structure Net.ok (ms mp mc:Int) (n:Net):Prop where
 s1:1≤n.sw
 s2:n.sw≤ms
 p1:2≤n.pl
 p2:n.pl≤mp
 c1:(n.cs.length:Int)≤mc
 c2:∀ c∈n.cs,c.ok n.sw n.pl
theorem oAdd_lst {S:Store}{n m:Nat}{xs ys:List D} (h1:lstAt S n=some xs) (h2:lstAt S m=some ys) (h:xs.length+ys.length≤lim):oAdd (.lst n) (.lst m) S=.ok (.lst S.length) (S++[.lst (xs++ys)]):=by
 show (match S[n]?,S[m]? with | some (O.lst xs),some (O.lst ys)=>(if xs.length+ys.length≤lim then R.ok (D.lst S.length) (S++[O.lst (xs++ys)]) else .bad) | _,_=>.bad)=_
 rw [lstAt_some h1,lstAt_some h2]
 dsimp only
 rw [if_pos h]
noncomputable def rowL (n:Int):List Int:=[0]++((List.range (n - 2).toNat).map fun (k:Nat)=>(2:Int)+(k:Nat))++[1]
noncomputable def rowJ (n i:Int):Int:=if i=0 then 0 else if i=n - 1 then 1 else i+1
theorem rowL_len {n:Int} (h2:2≤n):(rowL n).length=n.toNat:=by unfold rowL; simp; omega
theorem rowL_get {n:Int}{i:Nat} (h2:2≤n) (hi:(i:Int)<n):(rowL n)[i]?=some (rowJ n i):=by
 unfold rowL rowJ
 by_cases h0:i=0
 ·subst h0; simp
 ·rw [if_neg (by omega)]
  by_cases hl:(i:Int)=n - 1
  ·rw [if_pos hl,List.getElem?_append_right (by simp; omega)]
   have:i - ([0]++((List.range (n - 2).toNat).map fun (k:Nat)=>(2:Int)+(k:Nat))).length=0:=by simp; omega
   rw [this]; rfl
  ·rw [if_neg hl,List.getElem?_append_left (by simp; omega),List.getElem?_append_right (by simp; omega)]
   simp only [List.length_cons,List.length_nil,List.getElem?_map]
   rw [List.getElem?_range (by omega)]
   simp
   omega
theorem rowL_at {n i:Int} (h2:2≤n) (h0:0≤i) (hi:i<n):atI ((rowL n).map D.int) i=some (.int (rowJ n i)):=by
 have q:=atI_nat (xs:=(rowL n).map D.int) (j:=i.toNat) (v:=.int (rowJ n i.toNat)) (by rw [List.getElem?_map,rowL_get h2 (by omega)]; rfl)
 rw [show ((i.toNat:Nat):Int)=i by omega] at q
 exact q
theorem rowJ_in {n i:Int} (h2:2≤n) (h0:0≤i) (hi:i<n):0≤rowJ n i∧rowJ n i<n:=by
 unfold rowJ; split <;> (try split) <;> omega
theorem rowJ_ne {n i j:Int} (h2:2≤n) (h0:0≤i) (hij:i<j) (hj:j<n):rowJ n i≠rowJ n j:=by
 unfold rowJ; split <;> split <;> (try split) <;> (try split) <;> omega
theorem mima {x y n:Int} (hx:0≤x∧x<n) (hy:0≤y∧y<n) (h:x≠y):0≤(if y<x then y else x)∧(if y<x then y else x)<(if y>x then y else x)∧(if y>x then y else x)<n:=by
 split <;> split <;> omega
theorem upD_len (lo:Int) (n:Nat):(upD lo n).length=n:=by unfold upD; simp
theorem lim_eq:lim=1048576:=rfl
theorem row_ev {ρ:Env1}{j:Nat}{n:Int} (hj:ρ[j]?=some (some (.int n))) (h2:2≤n) (h7:n≤7) (S:Store):∃ k S1,cBin oAdd (cBin oAdd (cLst (cArgs [(cCon (.int 0))])) (cApp fListR (cArgs [(cCon (.int 2)),(cVar j)]))) (cLst (cArgs [(cCon (.int 1))])) ρ S=.ok (.lst k) S1∧Ex S S1∧S.length≤k∧lstAt S1 k=some ((rowL n).map D.int):=by
 have e1:fListR [.int 2,.int n] (S++[O.lst [D.int 0]])=.ok (.lst (S++[O.lst [D.int 0]]).length) (S++[O.lst [D.int 0]]++[.lst (upD 2 (n - 2).toNat)]):=by
  unfold fListR
  dsimp only
  rw [if_pos (by omega)]
 generalize hA:S++[O.lst [D.int 0]]++[O.lst (upD 2 (n - 2).toNat)]=A at e1
 have a1:lstAt A S.length=some [.int 0]:=by rw [← hA]; exact lstAt_app (lstAt_new _ _)
 have a2:lstAt A (S++[O.lst [D.int 0]]).length=some (upD 2 (n - 2).toNat):=by rw [← hA]; exact lstAt_new _ _
 have e2:=oAdd_lst a1 a2 (by rw [upD_len,lim_eq]; simp; omega)
 generalize hB:A++[O.lst ([D.int 0]++upD 2 (n - 2).toNat)]=B at e2
 have b1:lstAt (B++[O.lst [D.int 1]]) A.length=some ([D.int 0]++upD 2 (n - 2).toNat):=by rw [← hB]; exact lstAt_app (lstAt_new _ _)
 have e3:=oAdd_lst b1 (lstAt_new B [D.int 1]) (by rw [List.length_append,upD_len,lim_eq]; simp; omega)
 refine ⟨(B++[O.lst [D.int 1]]).length,(B++[O.lst [D.int 1]])++[O.lst ([D.int 0]++upD 2 (n - 2).toNat++[D.int 1])],?_,?_,?_,?_⟩
 ·simp only [cBin_ev,cLst_ev,cArgs_cons,cArgs_nil,cCon_ev,rbnd_ok,cApp_ev,cVar_ev,hj,e1,e2,e3]
 ·have:Ex S A:=by rw [← hA]; exact (ex_app _ _).trans (ex_app _ _)
  have:Ex S B:=by rw [← hB]; exact this.trans (ex_app _ _)
  exact (this.trans (ex_app _ _)).trans (ex_app _ _)
 ·rw [List.length_append,← hB,List.length_append,← hA]; simp; omega
 ·rw [lstAt_new]
  congr 1
  unfold rowL upD
  simp
inductive EndsR (c:CLL) (S:Store) (i:Nat) (pl:Int):Prop
 | mk (x y:Int) (S1:Store) (e:c "_law_ends" [.lst i,.int pl] S=.ok (.tup [.int x,.int y]) S1) (h0:0≤x) (h1:x<y) (h2:y<pl) (k:Kp (·=i) S S1) (st:StOk S1 i)
theorem ends_spec (h:Hs_law_ends cl) (ht:Hs_law_take cl) (n:Nat) {S:Store}{i:Nat} (hS:StOk S i) {pl:Int} (p2:2≤pl) (p7:pl≤7):EndsR (cl (n+2)) S i pl:=by
 obtain ⟨k,S1,e1,x1,hk,l1⟩:=row_ev (ρ:=[some (.lst i),some (.int pl),none,none,none]) (j:=1) rfl p2 p7 S
 have st1:=hS.ex x1
 have ki:k≠i:=by have:=hS.lt; omega
 obtain ⟨one,S2,e2,o0,o1,k2,n2,st2⟩:=take_spec ht n st1 (m:=pl - 1) (by omega) (by omega)
 obtain ⟨c3,S3,e3,c0,c1,k3,n3,st3⟩:=take_spec ht n st2 (m:=3) (by omega) (by omega)
 have l3:lstAt S3 k=some ((rowL pl).map D.int):=k3.lst (k2.lst l1 ki) ki
 have fin:∀ (other:Int) (S4:Store),one<other→other<pl→lstAt S4 k=some ((rowL pl).map D.int)→∀ x y,x=(if rowJ pl other<rowJ pl one then rowJ pl other else rowJ pl one)→y=(if rowJ pl other>rowJ pl one then rowJ pl other else rowJ pl one) →
   (oIx (.lst k) (.int one) S4=.ok (.int (rowJ pl one)) S4∧oIx (.lst k) (.int other) S4=.ok (.int (rowJ pl other)) S4)∧0≤x∧x<y∧y<pl:=by
  intro other S4 h1 h2 l4 x y ex ey
  obtain ⟨m1,m2,m3⟩:=mima (rowJ_in p2 (i:=one) (by omega) (by omega)) (rowJ_in p2 (i:=other) (by omega) (by omega)) (rowJ_ne p2 (by omega) h1 h2)
  subst ex ey
  exact ⟨⟨by rw [oIx_lst l4,rowL_at p2 (by omega) (by omega)],by rw [oIx_lst l4,rowL_at p2 (by omega) (by omega)]⟩,m1,m2,m3⟩
 by_cases hc:c3=0
 ·obtain ⟨r,S4,e4,r0,r1,k4,n4,st4⟩:=take_spec ht n st3 (m:=pl - 1 - one) (by omega) (by omega)
  obtain ⟨⟨f1,f2⟩,f3,f4,f5⟩:=fin (one+1+r) S4 (by omega) (by omega) (k4.lst l3 ki) _ _ rfl rfl
  refine ⟨_,_,S4,?_,f3,f4,f5,(x1.kp.trans k2).trans (k3.trans k4),st4⟩
  rw [show n+2=(n+1)+1 from rfl,h]
  refine run_rt rfl ?_
  simp [b_law_ends,startE,↓e1,e2,e3,hc,e4,f1,f2]
 ·obtain ⟨⟨f1,f2⟩,f3,f4,f5⟩:=fin (one+1) S3 (by omega) (by omega) l3 _ _ rfl rfl
  refine ⟨_,_,S3,?_,f3,f4,f5,(x1.kp.trans k2).trans k3,st3⟩
  rw [show n+2=(n+1)+1 from rfl,h]
  refine run_rt rfl ?_
  simp [b_law_ends,startE,↓e1,e2,e3,hc,f1,f2]
theorem _root_.L2.Kp.setNew {P:Nat→Prop}{S0 S:Store}{l:Nat}{o:O} (h:Kp P S0 S) (hl:S0.length≤l):Kp P S0 (S.set l o) :=
 ⟨by rw [List.length_set]; exact h.le,fun j hj n=>by rw [List.getElem?_set_ne (by omega)]; exact h.eq j hj n⟩
theorem StOk.setO {S:Store}{i l:Nat}{o:O} (h:StOk S i) (hl:l≠i):StOk (S.set l o) i:=by
 obtain ⟨s,b,q,r⟩:=h
 exact ⟨s,b,lstAt_of (by rw [List.getElem?_set_ne hl]; exact lstAt_some q),r⟩
theorem lstAt_setO {S:Store}{i l:Nat}{o:O}{xs:List D} (h:lstAt S i=some xs) (hl:l≠i):lstAt (S.set l o) i=some xs:=lstAt_of (by rw [List.getElem?_set_ne hl]; exact lstAt_some h)
@[simp] theorem upD_get {lo:Int}{n i:Nat}{d:D}:(upD lo n)[i]?=some d↔i<n∧d=.int (lo+i):=by
 unfold upD
 rw [List.getElem?_map]
 by_cases h:i<n
 ·rw [List.getElem?_range h]; simp [h,eq_comm]
 ·rw [List.getElem?_eq_none (by simpa using h)]; simp [h]
structure Rows (S0 S:Store) (i l:Nat) (sw pl:Int) (cs:List Ct):Prop where
 at':lstAt S l=some (cs.map Ct.d)
 ok:∀ c∈cs,c.ok sw pl
 st:StOk S i
 kp:Kp (·=i) S0 S
 ge:S0.length≤l
 ne:l≠i
theorem Rows.put {S0 S S1:Store}{i l:Nat}{sw pl:Int}{cs ds:List Ct} (h:Rows S0 S i l sw pl cs) (k:Kp (·=i) S S1) (st:StOk S1 i) (hd:∀ c∈ds,c.ok sw pl):Rows S0 (S1.set l (.lst (ds.map Ct.d))) i l sw pl ds :=
 ⟨lstAt_set (k.lst h.at' h.ne),hd,st.setO h.ne,(h.kp.trans k).setNew h.ge,h.ge,h.ne⟩
theorem Rows.go {S0 S S1:Store}{i l:Nat}{sw pl:Int}{cs:List Ct} (h:Rows S0 S i l sw pl cs) (k:Kp (·=i) S S1) (st:StOk S1 i):Rows S0 S1 i l sw pl cs:=⟨k.lst h.at' h.ne,h.ok,st,h.kp.trans k,h.ge,h.ne⟩
noncomputable def nE (i:Nat) (ms mp mc sw pl:Int) (l:Nat) (a b c d e f:Option D):Env1:=[some (.lst i),some (.int ms),some (.int mp),some (.int mc),some (.int sw),some (.int pl),some (.lst l),a,b,c,d,e,f]
inductive NetP (S:Store) (i:Nat) (ms mp mc:Int) (N:Net) (S1:Store):Prop
 | mk (ok:N.ok ms mp mc) (k:Kp (·=i) S S1) (st:StOk S1 i)
inductive NetRt (r:RS) (S:Store) (i:Nat) (ms mp mc:Int):Prop
 | mk (N:Net) (S1:Store) (e:r=.rt N.d S1) (p:NetP S i ms mp mc N S1)
inductive NetOk (r:R D) (S:Store) (i:Nat) (ms mp mc:Int):Prop
 | mk (N:Net) (S1:Store) (e:r=.ok N.d S1) (ok:N.ok ms mp mc) (k:Kp (·=i) S S1) (st:StOk S1 i)
inductive NetI1 (S0:Store) (i l:Nat) (ms mp mc sw pl:Int) (v7 v8 v9 v10:Option D) (m:Nat) (cs:List Ct) (j:Nat) (ρ:Env1) (S':Store):Prop
 | mk (v12:Option D) (ds:List Ct) (e:ρ=nE i ms mp mc sw pl l v7 v8 v9 v10 (some (.lst m)) v12) (Rl:Rows S0 S' i l sw pl cs) (Rd:Rows S0 S' i m sw pl ds) (h:ds.length=j)
inductive NetI2 (S0:Store) (i l:Nat) (ms mp mc sw pl:Int) (v7 v8 v9:Option D) (n0:Nat) (j:Nat) (ρ:Env1) (S':Store):Prop
 | mk (v10:Option D) (ds:List Ct) (e:ρ=nE i ms mp mc sw pl l v7 v8 v9 v10 none none) (R:Rows S0 S' i l sw pl ds) (h:ds.length=n0+j)
inductive NetI3 (S0:Store) (i l:Nat) (ms mp mc sw pl:Int) (kr t:Nat) (j:Nat) (ρ:Env1) (S':Store):Prop
 | mk (v8 v9:Option D) (ds:List Ct) (e:ρ=nE i ms mp mc sw pl l (some (.lst kr)) v8 v9 none none none) (R:Rows S0 S' i l sw pl ds) (h:ds.length=j) (q1:lstAt S' kr=some ((rowL pl).map D.int)) (q2:lstAt S' t=some (((rowL pl).drop 1).map D.int))
theorem net_spec (h:Hs_law_net cl) (he:Hs_law_ends cl) (ht:Hs_law_take cl) (n:Nat) {S:Store}{i:Nat} (hS:StOk S i) {ms mp mc:Int} (hms:1≤ms∧ms≤4) (hmp:2≤mp∧mp≤7) (hmc:0≤mc∧mc≤16):NetOk (cl (n+3) "_law_net" [.lst i,.int ms,.int mp,.int mc] S) S i ms mp mc:=by
 obtain ⟨r1,S1,e1,a1,b1,k1,n1,st1⟩:=take_spec ht (n+1) hS (m:=ms) (by omega) (by omega)
 obtain ⟨r2,S2,e2,a2,b2,k2,n2,st2⟩:=take_spec ht (n+1) st1 (m:=mp - 1) (by omega) (by omega)
 generalize hsw:1+r1=sw at *
 generalize hpl:2+r2=pl at *
 have w1:1≤sw:=by omega
 have w2:sw≤ms:=by omega
 have p1:2≤pl:=by omega
 have p2:pl≤mp:=by omega
 have kS2:Kp (·=i) S S2:=k1.trans k2
 have hl:S.length≤S2.length:=kS2.le
 have li:S2.length≠i:=by have:=hS.lt; omega
 obtain ⟨kr,S4,e4,x4,hk4,l4⟩:=row_ev (ρ:=nE i ms mp mc sw pl S2.length none none none none none none) (j:=5) rfl p1 (by omega) (S2++[.lst []])
 have kri:kr≠i:=by have:=hS.lt; simp at hk4; omega
 have krl:kr≠S2.length:=by simp at hk4; omega
 have R4:Rows S S4 i S2.length sw pl []:=⟨x4.lst (lstAt_new _ _) (fun z=>z),(fun c hc=>by cases hc),(st2.ex (ex_app _ _)).ex x4,kS2.trans ((ex_app S2 [.lst []]).trans x4).kp,hl,li⟩
 have fin:∀ (cs:List Ct) (S5:Store) (v7 v8 v9 v10:Option D),Rows S S5 i S2.length sw pl cs→(cs.length:Int)≤mc →
   NetRt ((sSeq (sAsg (cLst (cArgs [])) (gN 11)) (sSeq (sFor (iSeq (cVar 6)) (gN 12) (law_net_l1 (cl (n+2)))) (sSeq (sRet (cTup (cArgs [(cVar 4),(cVar 5),(cApp fTuple (cArgs [(cVar 11)]))]))) sPass))) (nE i ms mp mc sw pl S2.length v7 v8 v9 v10 none none) S5) S i ms mp mc:=by
  intro cs S5 v7 v8 v9 v10 R5 hc
  have hm:S.length≤S5.length:=R5.kp.le
  have mi:S5.length≠i:=by have:=hS.lt; omega
  have ml:S2.length≠S5.length:=by have:=lstAt_lt R5.at'; omega
  have Rm:Rows S (S5++[.lst []]) i S2.length sw pl cs:=R5.go (ex_app _ _).kp (R5.st.ex (ex_app _ _))
  obtain ⟨ρ',S6,e6,v12,ds,hρ,Rl,Rd,hd⟩:=loop_inv (w:=[(S2.length,cs.map Ct.d)]) (g:=gN 12) (b:=law_net_l1 (cl (n+2))) (items:=cs.map Ct.d)
   (NetI1 S i S2.length ms mp mc sw pl v7 v8 v9 v10 S5.length cs)
   (ρ:=nE i ms mp mc sw pl S2.length v7 v8 v9 v10 (some (.lst S5.length)) none) (S:=S5++[.lst []])
   (fun j ρ S' hp=>by obtain ⟨_,_,_,q,_⟩:=hp; exact okW_one q.at')
   ⟨none,[],rfl,Rm,⟨lstAt_new _ _,(fun c hc=>by cases hc),Rm.st,Rm.kp,hm,mi⟩,rfl⟩
   (fun j d ρ S' hd hp=>by
    obtain ⟨v12,ds,rfl,Rl,Rd,hj⟩:=hp
    rw [List.getElem?_map] at hd
    obtain ⟨c,hc1,rfl⟩:=Option.map_eq_some_iff.mp hd
    have cok:=R5.ok c (List.mem_of_getElem? hc1)
    have jl:j<cs.length:=(List.getElem?_eq_some_iff.mp hc1).1
    obtain ⟨r,S7,e7,r0,r9,k7,n7,st7⟩:=take_spec ht (n+1) Rl.st (m:=((ds.map Ct.d).length:Int)+1) (by omega) (by rw [List.length_map]; omega)
    rw [List.length_map] at e7 r9
    have hins:∀ c'∈ds.take r.toNat++c::ds.drop r.toNat,c'.ok sw pl:=fun c' hc'=>by
     rcases List.mem_append.mp hc' with q | q
     ·exact Rd.ok c' (List.mem_of_mem_take q)
     ·rcases List.mem_cons.mp q with q | q
      ·subst q; exact cok
      ·exact Rd.ok c' (List.mem_of_mem_drop q)
    have Rd7:=Rd.put k7 st7 hins
    have Rl7:Rows S (S7.set S5.length (.lst ((ds.take r.toNat++c::ds.drop r.toNat).map Ct.d))) i S2.length sw pl cs:=⟨lstAt_setO (k7.lst Rl.at' Rl.ne) (Ne.symm ml),Rl.ok,st7.setO Rd.ne,(Rl.kp.trans k7).setNew Rd.ge,Rl.ge,Rl.ne⟩
    refine ⟨_,_,rfl,_,_,.inl ?_,⟨some c.d,ds.take r.toNat++c::ds.drop r.toNat,rfl,Rl7,Rd7,by simp; omega⟩⟩
    have q1:=tyOk_lst Rd.at'
    have q2:=fLen_lst Rd.at'
    have q3:=mList_ev (k7.lst Rd.at' Rd.ne) gInsert [.int r,c.d]
    have q4:ds.length<1000∧0≤r∧r.toNat≤ds.length:=by omega
    simp [nE,law_net_l1,q1,q2,e7,q3,q4])
  subst hρ
  refine ⟨⟨sw,pl,ds⟩,S6,?_,⟨⟨w1,w2,p1,p2,by show (ds.length:Int)≤mc; rw [hd,List.length_map]; exact hc,Rd.ok⟩,Rd.kp,Rd.st⟩⟩
  have q5:lstAt (S5++[O.lst []]) S2.length=some (cs.map Ct.d):=Rm.at'
  have q6:=fTuple_lst Rd.at'
  unfold nE at e6 ⊢
  simp [q5,e6,q6,Net.d]
 have mid:∀ (cs:List Ct) (S5:Store) (v7 v8 v9:Option D),Rows S S5 i S2.length sw pl cs→(cs.length:Int)≤mc →
   NetRt ((sSeq (sFor (iRange1 (cArgs [(cApp (cl (n+2) "_law_take") (cArgs [(cVar 0),(cBin oAdd (cBin (oInt fun i j=>i - j) (cVar 3) (cApp fLen (cArgs [(cVar 6)]))) (cCon (.int 1)))]))])) (gN 10) (law_net_l2 (cl (n+2))))
    (sSeq (sAsg (cLst (cArgs [])) (gN 11)) (sSeq (sFor (iSeq (cVar 6)) (gN 12) (law_net_l1 (cl (n+2)))) (sSeq (sRet (cTup (cArgs [(cVar 4),(cVar 5),(cApp fTuple (cArgs [(cVar 11)]))]))) sPass)))) (nE i ms mp mc sw pl S2.length v7 v8 v9 none none none) S5) S i ms mp mc:=by
  intro cs S5 v7 v8 v9 R5 hc
  obtain ⟨r,S6,e6,r0,r9,k6,n6,st6⟩:=take_spec ht (n+1) R5.st (m:=mc - ((cs.map Ct.d).length:Int)+1) (by rw [List.length_map]; omega) (by omega)
  rw [List.length_map] at e6 r9
  have R6:=R5.go k6 st6
  obtain ⟨ρ',S7,e7,v10,ds,hρ,Rd,hd⟩:=loop_inv (w:=[]) (g:=gN 10) (b:=law_net_l2 (cl (n+2))) (items:=upD 0 r.toNat)
   (NetI2 S i S2.length ms mp mc sw pl v7 v8 v9 cs.length)
   (fun j ρ S' hp=>okW_nil _) ⟨none,cs,rfl,R6,rfl⟩
   (fun j d ρ S' hd hp=>by
    obtain ⟨v10,ds,rfl,R,hj⟩:=hp
    rw [upD_get] at hd
    obtain ⟨hjr,rfl⟩:=hd
    obtain ⟨x,y,S8,e8,x0,xy,yp,k8,st8⟩:=ends_spec he ht n R.st p1 (by omega)
    obtain ⟨r3,S9,e9,a3,b3,k9,n9,st9⟩:=take_spec ht (n+1) st8 (m:=sw) (by omega) (by omega)
    obtain ⟨r4,S10,e10,a4,b4,k10,n10,st10⟩:=take_spec ht (n+1) st9 (m:=2) (by omega) (by omega)
    have kk:=(k8.trans k9).trans k10
    have hok:∀ c∈ds++[⟨x,y,r3,r4⟩],Ct.ok sw pl c:=fun c hc=>by
     rcases List.mem_append.mp hc with q | q
     ·exact R.ok c q
     ·simp at q; subst q; exact ⟨x0,xy,yp,a3,b3,a4,b4⟩
    have Rd:=R.put kk st10 hok
    refine ⟨_,_,rfl,_,_,.inl ?_,⟨some (.int (0+(j:Int))),ds++[⟨x,y,r3,r4⟩],rfl,Rd,by simp; omega⟩⟩
    have q1:=tyOk_lst R.at'
    have q2:=mList_ev (kk.lst R.at' R.ne) gAppend [Ct.d ⟨x,y,r3,r4⟩]
    have q3:ds.length<lim:=by rw [lim_eq]; omega
    have q4:(2:Nat)+2≤lim:=by decide
    simp [nE,law_net_l2,q1,e8,e9,e10,Ct.d,q4] at q2 ⊢
    simp [q2,q3])
  subst hρ
  obtain ⟨N,S11,e11,r11⟩:=fin ds S7 v7 v8 v9 v10 Rd (by rw [hd,upD_len]; omega)
  refine ⟨N,S11,?_,r11⟩
  have q5:=fLen_lst R5.at'
  rw [List.length_map] at q5
  have q6:-4611686018427387904≤r∧r<4611686018427387904:=by omega
  rw [sSeq_ev,sFor_ev]
  unfold nE at e7 e11 ⊢
  simp [q5,e6,q6,e7,-sSeq_ev,e11]
 obtain ⟨c5,S5,e5,a5,b5,k5,n5,st5⟩:=take_spec ht (n+1) R4.st (m:=2) (by omega) (by omega)
 have R5:=R4.go k5 st5
 have l5:lstAt S5 kr=some ((rowL pl).map D.int):=k5.lst l4 kri
 have main:NetRt (b_law_net (cl (n+2)) [some (.lst i),some (.int ms),some (.int mp),some (.int mc),none,none,none,none,none,none,none,none,none] S) S i ms mp mc:=by
  unfold nE at e4
  by_cases hc:c5=0∧pl - 1≤mc
  ·have hcut:cutD ((rowL pl).map D.int) (some 1) none=((rowL pl).drop 1).map D.int:=by
    unfold cutD
    have hs:HT.sIx ((rowL pl).map D.int).length 0 (some 1)=1:=by
     have:=HT.sIx_nat ((rowL pl).map D.int).length 0 1
     have hl:=rowL_len p1
     rw [List.length_map] at this ⊢
     rw [show ((1:Nat):Int)=1 from rfl] at this
     rw [this]; omega
    rw [hs,HT.sIx_none,List.map_drop,List.take_of_length_le (by simp)]
   have x6:=ex_app S5 [O.lst (((rowL pl).drop 1).map D.int)]
   have t6:lstAt (S5++[O.lst (((rowL pl).drop 1).map D.int)]) S5.length=some (((rowL pl).drop 1).map D.int):=lstAt_new _ _
   have l6:=x6.lst l5 (fun z=>z)
   have ti:S5.length≠i:=by have:=st5.lt; omega
   have tl:S5.length≠S2.length:=by have:=lstAt_lt R5.at'; omega
   have R6:=R5.go x6.kp (st5.ex x6)
   obtain ⟨ρ',S7,e7,v8,v9,ds,hρ,Rd,hd,_⟩:=loop_inv (w:=[(kr,(rowL pl).map D.int),(S5.length,((rowL pl).drop 1).map D.int)]) (g:=gT [gN 8,gN 9]) (b:=law_net_l3 (cl (n+2))) (items:=zipD ((rowL pl).map D.int) (((rowL pl).drop 1).map D.int))
    (NetI3 S i S2.length ms mp mc sw pl kr S5.length)
    (ρ:=nE i ms mp mc sw pl S2.length (some (.lst kr)) none none none none none) (S:=S5++[O.lst (((rowL pl).drop 1).map D.int)])
    (fun j ρ S' hp=>by obtain ⟨_,_,_,_,_,_,q1,q2⟩:=hp; exact okW_two q1 q2)
    ⟨none,none,[],rfl,R6,rfl,l6,t6⟩
    (fun j d ρ S' hd hp=>by
     obtain ⟨v8,v9,ds,rfl,R,hj,q1,q2⟩:=hp
     have hz:∃ x y,(rowL pl)[j]?=some x∧(rowL pl)[1+j]?=some y∧d=.tup [.int x,.int y]:=by
      unfold zipD at hd
      rw [List.getElem?_map] at hd
      obtain ⟨⟨x,y⟩,hxy,rfl⟩:=Option.map_eq_some_iff.mp hd
      rw [List.getElem?_zip_eq_some,List.getElem?_map,List.getElem?_map,List.getElem?_drop] at hxy
      obtain ⟨hx,hy⟩:=hxy
      obtain ⟨x',hx',rfl⟩:=Option.map_eq_some_iff.mp hx
      obtain ⟨y',hy',rfl⟩:=Option.map_eq_some_iff.mp hy
      exact ⟨x',y',hx',hy',rfl⟩
     obtain ⟨x,y,hx,hy,rfl⟩:=hz
     have hjl:1+j<(rowL pl).length:=(List.getElem?_eq_some_iff.mp hy).1
     rw [rowL_len p1] at hjl
     rw [rowL_get p1 (by omega)] at hx hy
     cases hx
     cases hy
     obtain ⟨r3,S9,e9,a3,b3,k9,n9,st9⟩:=take_spec ht (n+1) R.st (m:=sw) (by omega) (by omega)
     obtain ⟨r4,S10,e10,a4,b4,k10,n10,st10⟩:=take_spec ht (n+1) st9 (m:=2) (by omega) (by omega)
     have kk:=k9.trans k10
     obtain ⟨m1,m2,m3⟩:=mima (n:=pl) (rowJ_in p1 (i:=(j:Int)) (by omega) (by omega)) (rowJ_in p1 (i:=((1+j:Nat):Int)) (by omega) (by omega)) (rowJ_ne p1 (by omega) (by omega) (by omega))
     generalize hX:(if rowJ pl ((1+j:Nat):Int)<rowJ pl (j:Int) then rowJ pl ((1+j:Nat):Int) else rowJ pl (j:Int))=X at m1 m2
     generalize hY:(if rowJ pl ((1+j:Nat):Int)>rowJ pl (j:Int) then rowJ pl ((1+j:Nat):Int) else rowJ pl (j:Int))=Y at m2 m3
     have hok:∀ c∈ds++[⟨X,Y,r3,r4⟩],Ct.ok sw pl c:=fun c hc=>by
      rcases List.mem_append.mp hc with q | q
      ·exact R.ok c q
      ·simp at q; subst q; exact ⟨m1,m2,m3,a3,b3,a4,b4⟩
     have Rd:=R.put kk st10 hok
     refine ⟨_,_,rfl,_,_,.inl ?_,⟨some (.int (rowJ pl (j:Int))),some (.int (rowJ pl ((1+j:Nat):Int))),ds++[⟨X,Y,r3,r4⟩],rfl,Rd,by simp; omega,lstAt_setO (kk.lst q1 kri) krl.symm,lstAt_setO (kk.lst q2 ti) tl.symm⟩⟩
     have q7:=tyOk_lst R.at'
     have q8:=mList_ev (kk.lst R.at' R.ne) gAppend [Ct.d ⟨X,Y,r3,r4⟩]
     have q9:ds.length<lim:=by rw [lim_eq]; omega
     simp [nE,law_net_l3,q7,e9,e10,Ct.d,-Int.natCast_add,hX,hY] at q8 ⊢
     simp [q8,q9])
   have hdl:ds.length=pl.toNat - 1:=by
    rw [hd]
    unfold zipD
    rw [List.length_map,List.length_zip,List.length_map,List.length_map,List.length_drop,rowL_len p1]
    exact Nat.min_eq_right (Nat.sub_le _ _)
   subst hρ
   obtain ⟨N,S11,e11,r11⟩:=mid ds S7 (some (.lst kr)) v8 v9 Rd (by omega)
   unfold nE at e7 e11
   refine ⟨N,S11,?_,r11⟩
   have q3:=oSl_lst l5 (some 1) none
   rw [hcut] at q3
   unfold b_law_net
   generalize hT:((rowL pl).drop 1).map D.int=T at q3 l6 t6 e7
   generalize hT2:(rowL pl).map D.int=T2 at q3 l6 t6 e7
   simp [e1,e2,hsw,hpl,↓e4,e5,hc.1,hc.2,q3,l6,t6,e7,↓e11]
  ·obtain ⟨N,S11,e11,r11⟩:=mid [] S5 (some (.lst kr)) none none R5 (by show (0:Int)≤mc; omega)
   unfold nE at e11
   refine ⟨N,S11,?_,r11⟩
   unfold b_law_net
   by_cases h0:c5=0
   ·have h1:¬ (pl - 1≤mc):=fun z=>hc ⟨h0,z⟩
    simp [e1,e2,hsw,hpl,↓e4,e5,h0,h1,↓e11]
   ·simp [e1,e2,hsw,hpl,↓e4,e5,h0,↓e11]
 obtain ⟨N,S12,e12,a12,b12,c12⟩:=main
 exact ⟨N,S12,by rw [show n+3=(n+2)+1 from rfl,h]; exact run_rt rfl e12,a12,b12,c12⟩
end My
namespace Mt
def Z (ms:List Int) (x:Int):Prop:=0≤x∧ms[x.toNat]?=some 0
end Mt
namespace My
open PySem L2 Mt
variable {cl:Nat→CLL}
theorem lim_big:(1000:Nat)<lim:=by decide
@[simp] theorem cutD_two (w x y z:D):cutD [w,x,y,z] none (some 2)=[w,x]:=rfl
noncomputable def isBitD:D→Bool
 | .int i=>decide (0≤i)&&decide (i≤1)
 | _=>false
noncomputable def isIntD:D→Bool
 | .int _=>true
 | _=>false
def Scal (d:D):Prop:=(flat d).isSome=true
theorem is_whole_spec (h:Hs_is_whole cl) (n:Nat) {d:D} (hd:Scal d) (S:Store):cl (n+1) "is_whole" [d] S=.ok (.bl (isIntD d)) S:=by
 rw [h]
 refine run_rt rfl ?_
 cases d with
 | int i=>simp [b_is_whole,startE,isIntD]
 | bl b=>simp [b_is_whole,startE,isIntD]
 | non=>simp [b_is_whole,startE,isIntD]
 | str x=>simp [b_is_whole,startE,isIntD]
 | _=>cases hd
theorem is_bit_spec (h:Hs_is_bit cl) (hw:Hs_is_whole cl) (n:Nat) {d:D} (hd:Scal d) (S:Store):cl (n+2) "is_bit" [d] S=.ok (.bl (isBitD d)) S:=by
 have e:=is_whole_spec hw n hd S
 rw [show n+2=(n+1)+1 from rfl,h]
 refine run_rt rfl ?_
 cases d with
 | int i =>
  by_cases h0:0≤i
  ·simp [b_is_bit,startE,e,isIntD,isBitD,h0]
  ·simp [b_is_bit,startE,e,isIntD,isBitD,h0]
 | bl b=>simp [b_is_bit,startE,e,isIntD,isBitD]
 | non=>simp [b_is_bit,startE,e,isIntD,isBitD]
 | str x=>simp [b_is_bit,startE,e,isIntD,isBitD]
 | _=>cases hd
theorem boolsOf_map:∀ l:List Bool,boolsOf (l.map D.bl)=some l
 | []=>rfl
 | b::r=>by
  show (boolsOf (r.map D.bl)).map (b::·)=_
  rw [boolsOf_map r]; rfl
theorem fAll_ev {S:Store}{k:Nat}{l:List Bool} (h:lstAt S k=some (l.map D.bl)) (g:List Bool→Bool):fBools g [.lst k] S=.ok (.bl (g l)) S:=by
 show (match (lstAt S k).bind boolsOf with | some bs=>R.ok (D.bl (g bs)) S | none=>.bad)=_
 rw [h]
 show (match boolsOf (l.map D.bl) with | some bs=>R.ok (D.bl (g bs)) S | none=>.bad)=_
 rw [boolsOf_map]
@[simp] theorem cutD_three (w x y z:D):cutD [w,x,y,z] none (some 3)=[w,x,y]:=rfl
theorem scal_int (i:Int):Scal (.int i):=rfl
theorem is_contact_spec (h:Hs_is_contact cl) (hb:Hs_is_bit cl) (hw:Hs_is_whole cl) (n:Nat) {sw pl:Int}{c:Ct} (ok:c.ok sw pl) (S:Store):Spc (cl (n+3) "is_contact" [.int sw,.int pl,c.d] S) ((.bl true)) S:=by
 obtain ⟨a0,ab,bp,k0,k1,o0,o1⟩:=ok
 have e2:loopC [] .one (fun _=>ret true) (is_contact_e1 (cl (n+2))) [none] ([c.a,c.b,c.k,c.o].map D.int) S=.ok ([c.a,c.b,c.k,c.o].map fun _=>D.bl true) S:=by
  refine comp_pureM D.int (okW_nil _) _ _ fun y hy=>⟨_,rfl,?_⟩
  have:=is_whole_spec hw (n+1) (scal_int y) S
  simp [is_contact_e1,this,isIntD]
 have e2':loopC [] .one (fun _=>ret true) (is_contact_e1 (cl (n+2))) [none] [.int c.a,.int c.b,.int c.k,.int c.o] S=.ok [.bl true,.bl true,.bl true,.bl true] S:=e2
 have a1:fBools (fun bs=>bs.all id) [.lst S.length] (S++[.lst [.bl true,.bl true,.bl true,.bl true]])=.ok (.bl true) (S++[.lst [.bl true,.bl true,.bl true,.bl true]]):=fAll_ev (l:=[true,true,true,true]) (lstAt_new S _) _
 have x1:=ex_app S [O.lst [.bl true,.bl true,.bl true,.bl true]]
 generalize hS1:S++[O.lst [.bl true,.bl true,.bl true,.bl true]]=S1 at a1 x1
 have b1:=is_bit_spec hb hw n (scal_int c.o) S1
 have b2:isBitD (.int c.o)=true:=by simp [isBitD]; omega
 rw [b2] at b1
 have q4:4<lim:=by decide
 have hch:cChain3 (oCmp fun i j=>decide (i≤j)) oLt oLt (cCon (.int 0)) (cBin oIx (cVar 2) (cCon (.int 0))) (cBin oIx (cVar 2) (cCon (.int 1))) (cVar 1) [some (.int sw),some (.int pl),some (.tup [.int c.a,.int c.b,.int c.k,.int c.o])] S1=.ok true S1:=by
  unfold cChain3
  simp [bnd_ev,a0,ab,bp,ret_ev]
 refine ⟨S1,?_,x1⟩
 rw [show n+3=(n+2)+1 from rfl,h]
 refine run_rt rfl ?_
 simp [b_is_contact,startE,Ct.d,e2',q4,hS1,a1,hch,k0,k1,b1]
theorem is_net_spec (h:Hs_is_net cl) (hc:Hs_is_contact cl) (hb:Hs_is_bit cl) (hw:Hs_is_whole cl) (n:Nat) {N:Net} (ok:N.ok 4 7 16) (S:Store):Spc (cl (n+4) "is_net" [N.d] S) ((.bl true)) S:=by
 have s1:=ok.s1
 have s2:=ok.s2
 have p1:=ok.p1
 have p2:=ok.p2
 have c1:=ok.c1
 have w1:=is_whole_spec hw (n+2) (scal_int N.sw) S
 have w2:=is_whole_spec hw (n+2) (scal_int N.pl) S
 obtain ⟨S2,e2,x2⟩:=comp_mapM Ct.d (w:=[]) (t:=.one) (c:=is_net_e1 (cl (n+3))) (ρ0:=[none,some (.int N.sw),some (.int N.pl)]) (fun S'=>Ex S S') (fun S' x=>okW_nil _) (fun _=>.bl true) N.cs (Kp.refl _ _)
  (fun c hcm S' x=>by
   obtain ⟨S3,e3,x3⟩:=is_contact_spec hc hb hw n (ok.c2 c hcm) S'
   refine ⟨_,rfl,S3,?_,x.trans x3⟩
   simp [is_net_e1,e3])
 have e4:N.cs.map (fun _=>D.bl true)=(N.cs.map fun _=>true).map D.bl:=by rw [List.map_map]; rfl
 rw [e4] at e2
 have a1:=fAll_ev (lstAt_new S2 ((N.cs.map fun _=>true).map D.bl)) (fun bs=>bs.all id)
 have q2:((N.cs.map fun _=>true).all id)=true:=by rw [List.all_map]; simp
 rw [q2] at a1
 have x3:=ex_app S2 [O.lst ((N.cs.map fun _=>true).map D.bl)]
 generalize hS3:S2++[O.lst ((N.cs.map fun _=>true).map D.bl)]=S3 at a1 x3
 have hl:(N.cs.map Ct.d).length<lim:=by rw [List.length_map,lim_eq]; omega
 have hl2:¬ ((16:Int)<((N.cs.map Ct.d).length:Nat)):=by rw [List.length_map]; omega
 have hi:=inst_tup (N.cs.map Ct.d) S
 refine ⟨S3,?_,x2.trans x3⟩
 rw [show n+4=(n+3)+1 from rfl,h]
 refine run_rt rfl ?_
 unfold Net.d
 generalize N.cs.map Ct.d=CS at *
 simp only [isIntD] at w1 w2
 generalize (N.cs.map fun _=>true).map D.bl=B at *
 simp [b_is_net,startE,w1,w2,s1,s2,p1,p2,hl2,hl,e2,hS3,a1]
structure HD (cl:Nat→CLL):Prop where
 st:Hs_law_state cl
 ce:Hs_law_cell_at cl
 ta:Hs_law_take cl
 en:Hs_law_ends cl
 ne:Hs_law_net cl
abbrev Net.g (N:Net):Prop:=N.ok 4 7 16
noncomputable def b1 (b:Bool):Int:=if b then 1 else 0
open PySem L2
def kd (S:Store) (d:D):Prop:=∃ t,kindD S d=some t
end My
namespace Mt
noncomputable def cutV (v:Int) (x:Int):Int:=if x≤v then 0 else 1
end Mt
namespace Mt
noncomputable def cls (pl:Nat) (m:Nat→Nat) (a:Nat):List Nat:=(List.range pl).filter fun b=>decide (m b=m a)
end Mt
namespace My
open PySem L2 Mt
variable {cl:Nat→CLL}
theorem app_at {S:Store}{n:Nat}{ys:List D}{x:D} (h:lstAt S n=some ys) (hl:ys.length<lim):mList gAppend (.lst n) [x] S=.ok .non (S.set n (.lst (ys++[x]))):=by
 rw [mList_ev h,gAppend_ev,if_pos hl]
end My
namespace Mt
open PySem
noncomputable def fig (n:Nat):Str:=⟨#[48+n]⟩
theorem ten {i:Int} (h0:0≤i) (h9:i<10):i=0∨i=1∨i=2∨i=3∨i=4∨i=5∨i=6∨i=7∨i=8∨i=9:=by omega
theorem fig_of {i:Int} (h0:0≤i) (h9:i<10):Str.ofString (toString i)=fig i.toNat:=by
 rcases ten h0 h9 with rfl | rfl | rfl | rfl | rfl | rfl | rfl | rfl | rfl | rfl <;> decide +kernel
theorem find_fig {i:Int} (h0:0≤i) (h9:i<10):Txt.find (Str.ofString "0123456789") (fig i.toNat)=i:=by
 rcases ten h0 h9 with rfl | rfl | rfl | rfl | rfl | rfl | rfl | rfl | rfl | rfl <;> decide +kernel
noncomputable def inter (c:Nat):List (List Nat)→List Nat
 | []=>[]
 | [x]=>x
 | x::y::r=>x++c::inter c (y::r)
theorem join_list (c:Nat):∀ ws:List Str,(Str.join ⟨#[c]⟩ ws).cps.toList=inter c (ws.map (·.cps.toList))
 | []=>rfl
 | [x]=>rfl
 | x::y::r=>by
  show ((x.cps++#[c])++(Str.join ⟨#[c]⟩ (y::r)).cps).toList=_
  rw [Array.toList_append,Array.toList_append,join_list c (y::r)]
  simp [inter]
theorem app_inj {c:Nat}{A B:List Nat}:∀ {x y:List Nat},c∉x→c∉y→x++c::A=y++c::B→x=y∧A=B
 | [],[],_,_,h=>⟨rfl,by simpa using h⟩
 | [],b::y,_,hy,h=>by
  simp only [List.nil_append,List.cons_append,List.cons.injEq] at h
  exact absurd (by rw [h.1]; exact List.mem_cons_self) hy
 | a::x,[],hx,_,h=>by
  simp only [List.nil_append,List.cons_append,List.cons.injEq] at h
  exact absurd (by rw [h.1]; exact List.mem_cons_self) hx
 | a::x,b::y,hx,hy,h=>by
  simp only [List.cons_append,List.cons.injEq] at h
  obtain ⟨e1,e2⟩:=app_inj (fun z=>hx (List.mem_cons_of_mem _ z)) (fun z=>hy (List.mem_cons_of_mem _ z)) h.2
  exact ⟨by rw [h.1,e1],e2⟩
theorem inter_inj {c:Nat}:∀ {us ws:List (List Nat)},us≠[]→ws≠[]→(∀ u∈us,c∉u)→(∀ w∈ws,c∉w)→inter c us=inter c ws→us=ws
 | [],_,h,_,_,_,_=>absurd rfl h
 | _,[],_,h,_,_,_=>absurd rfl h
 | [u],[w],_,_,_,_,h=>by rw [show u=w from h]
 | [u],w::w2::r,_,_,hu,_,h=>by
  have:u=w++c::inter c (w2::r):=h
  exact absurd (by rw [this]; simp) (hu u List.mem_cons_self)
 | u::u2::r,[w],_,_,_,hw,h=>by
  have:u++c::inter c (u2::r)=w:=h
  exact absurd (by rw [← this]; simp) (hw w List.mem_cons_self)
 | u::u2::us,w::w2::ws,_,_,hu,hw,h=>by
  obtain ⟨e1,e2⟩:=app_inj (hu u List.mem_cons_self) (hw w List.mem_cons_self) h
  have:=inter_inj (us:=u2::us) (ws:=w2::ws) (by simp) (by simp) (fun z hz=>hu z (List.mem_cons_of_mem _ hz)) (fun z hz=>hw z (List.mem_cons_of_mem _ hz)) e2
  rw [e1,this]
theorem split_ne (x y:Str):Txt.split x y≠[]:=by
 unfold Txt.split
 split
 ·simp
 ·split
  ·simp
  ·rw [StrLaws.partsBetween_eq]
   obtain ⟨p,r,e⟩:=StrLaws.partsFrom_ne x y.length 0 (Builtin.Str.occurrences x y 0 x.length (x.length+1))
   rw [e]; simp
theorem str_inj {a b:Str} (h:a.cps.toList=b.cps.toList):a=b:=Str.ext' (Array.toList_inj.mp h)
theorem split_join {c:Nat}{ws:List Str} (hne:ws≠[]) (hf:∀ w∈ws,c∉w.cps.toList):Txt.split (Str.join ⟨#[c]⟩ ws) ⟨#[c]⟩=ws:=by
 have h2:=congrArg (fun s:Str=>s.cps.toList) (StrLaws.join_split (Str.join ⟨#[c]⟩ ws) ⟨#[c]⟩)
 rw [join_list,join_list] at h2
 have h3:=inter_inj (by simpa using split_ne _ _) (by simpa using hne) (fun u hu=>by
  obtain ⟨p,hp,rfl⟩:=List.mem_map.mp hu
  exact StrLaws.split_free _ c p hp) (fun u hu=>by
  obtain ⟨p,hp,rfl⟩:=List.mem_map.mp hu
  exact hf p hp) h2
 exact (List.map_inj_right fun a b e=>str_inj e).mp h3
open Builtin Builtin.Str in
theorem parts_len {x y:Str} (h:2≤(Txt.split x y).length):(partsBetween x (occurrences x y 0 x.length (x.length+1)) y.length).length=(Txt.split x y).length:=by
 unfold Txt.split at h ⊢
 split at h
 ·simp at h
 ·rename_i h1
  split at h
  ·simp at h
  ·rename_i h2
   rw [if_neg h1,if_neg h2]
theorem join_ok {sep:Str}{ws:List Str} (h:(ws.map (·.length)).sum+ws.length*sep.length≤100000):JoinOk sep ws=true:=by
 unfold JoinOk Builtin.Str.tooLong
 have e:=StrLaws.joinTotal sep ws
 have:¬ (ws.toArray.foldl (·+·.length+sep.length) 0)>sizeLine:=by
  rw [show ws.toArray.foldl (·+·.length+sep.length) 0=_ from e,sizeLine_eq]; omega
 rw [decide_eq_false this]; rfl
end Mt
namespace My
open PySem L2 Mt
variable {cl:Nat→CLL}
noncomputable def wdC (c:Ct):Str:=⟨#[48+c.a.toNat,45,48+c.b.toNat,47,48+c.k.toNat,if c.o=1 then 43 else 45]⟩
noncomputable def endW (N:Net):Str:=⟨#[48+N.pl.toNat,58]⟩
noncomputable def wsN (N:Net):List Str:=fig N.sw.toNat::endW N::N.cs.map wdC
noncomputable def bk:Str:=⟨#[32]⟩
noncomputable def txN (N:Net):Str:=Txt.join bk (wsN N)
theorem bk_eq:Str.ofString " "=bk:=rfl
theorem strsD_map:∀ ws:List Str,strsD (ws.map D.str)=some ws
 | []=>rfl
 | w::ws=>by show (strsD (ws.map D.str)).map (w::·)=_; rw [strsD_map ws]; rfl
theorem mJoin_lst {S:Store}{k:Nat}{z:Str}{ws:List Str} (h:lstAt S k=some (ws.map D.str)) (ok:JoinOk z ws=true):mJoin (.str z) [.lst k] S=.ok (.str (Txt.join z ws)) S:=by
 unfold mJoin
 dsimp only
 rw [lstAt_some h]
 dsimp only
 rw [strsD_map]
 dsimp only
 rw [if_pos ok]
theorem fStr_int {i:Int} (h0:0≤i) (h9:i<10) (S:Store):fStr [.int i] S=.ok (.str (fig i.toNat)) S:=by
 have:fStr [.int i] S=if i.natAbs<1000000000000000000 then .ok (.str (Str.ofString (toString i))) S else .bad:=rfl
 rw [this,if_pos (by omega),fig_of h0 h9]
theorem cFmt_int {a:C}{ρ:Env1}{i:Int}{S:Store} (h0:0≤i) (h9:i<10) (h:a ρ S=.ok (.int i) S):cFmt a ρ S=.ok (.str (fig i.toNat)) S:=by
 unfold cFmt
 rw [bnd_ev,h]
 show (if i.natAbs<1000000000000000000 then R.ok (D.str (Str.ofString (toString i))) S else .bad)=_
 rw [if_pos (by omega),fig_of h0 h9]
theorem cFmt_str {a:C}{ρ:Env1}{z:Str}{S:Store} (hl:z.length≤lim) (h:a ρ S=.ok (.str z) S):cFmt a ρ S=.ok (.str z) S:=by
 unfold cFmt
 rw [bnd_ev,h]
 show (if z.length≤lim then R.ok (D.str z) S else .bad)=_
 rw [if_pos hl]
theorem cJS_go {ρ:Env1}{S:Store}:∀ (cs:List C) (ys:List Str) (acc:Str),cs.map (fun c=>c ρ S)=ys.map (fun y=>.ok (.str y) S)→acc.length+(ys.map (·.length)).sum≤lim→cJS cs acc ρ S=.ok (.str (ys.foldl (·++·) acc)) S
 | [],[],acc,_,hl=>by
  unfold cJS
  rw [if_pos (by simpa using hl)]; rfl
 | [],_::_,_,h,_=>by cases h
 | _::_,[],_,h,_=>by cases h
 | c::cs,y::ys,acc,h,hl=>by
  rw [List.map_cons,List.map_cons,List.cons.injEq] at h
  have e:(acc++y).length=acc.length+y.length:=Str.length_append acc y
  rw [List.map_cons,List.sum_cons] at hl
  unfold cJS
  rw [bnd_ev,h.1]
  show (if (acc++y).length≤lim then cJS cs (acc++y) ρ S else .bad)=_
  rw [if_pos (by omega),cJS_go cs ys (acc++y) h.2 (by omega)]
  rfl
structure Cg (c:Ct):Prop where
 a:0≤c.a∧c.a<10
 b:0≤c.b∧c.b<10
 k:0≤c.k∧c.k<10
 o:c.o=0∨c.o=1
theorem cg_of {N:Net} (ok:N.g) {c:Ct} (hc:c∈N.cs):Cg c:=by
 obtain ⟨a0,ab,bp,k0,k1,o0,o1⟩:=ok.c2 c hc
 have:=ok.p2
 have:=ok.s2
 exact ⟨by omega,by omega,by omega,by omega⟩
noncomputable def sgn (o:Int):Str:=if o=1 then ⟨#[43]⟩ else ⟨#[45]⟩
theorem sgn_len (o:Int):(sgn o).length=1:=by unfold sgn; split <;> rfl
theorem wd_fold (c:Ct):[fig c.a.toNat,(⟨#[45]⟩:Str),fig c.b.toNat,⟨#[47]⟩,fig c.k.toNat,sgn c.o].foldl (·++·) Str.empty=wdC c:=by
 unfold sgn wdC fig
 split <;> rfl
theorem ct_run (c:CLL) {d:D}{a b k o:Int}{w:Str}{S:Store} (i0:oIx d (.int 0) S=.ok (.int a) S) (i1:oIx d (.int 1) S=.ok (.int b) S) (i2:oIx d (.int 2) S=.ok (.int k) S) (i3:oIx d (.int 3) S=.ok (.int o) S) (e:cJS [(cFmt (cVar 1)),(cCon (.str (Str.ofString "-"))),(cFmt (cVar 2)),(cCon (.str (Str.ofString "/"))),(cFmt (cVar 3)),(cFmt (cVar 4))] Str.empty [some d,some (.int a),some (.int b),some (.int k),some (.str (sgn o))] S=.ok (.str w) S) :
  b_contact_text c [some d,none,none,none,none] S=.rt (.str w) S:=by
 by_cases ho:o=1
 ·subst ho
  have e':sgn 1=Str.ofString "+":=rfl
  rw [e'] at e
  simp [b_contact_text,i0,i1,i2,i3,e]
 ·have e':sgn o=Str.ofString "-":=by unfold sgn; rw [if_neg ho]; rfl
  rw [e'] at e
  simp [b_contact_text,i0,i1,i2,i3,ho,e]
theorem contact_text_spec (h:Hs_contact_text cl) (n:Nat) {c:Ct} (g:Cg c) (S:Store):cl (n+1) "contact_text" [c.d] S=.ok (.str (wdC c)) S:=by
 have hd:c.d=.tup [.int c.a,.int c.b,.int c.k,.int c.o]:=rfl
 rw [h]
 refine run_rt rfl (ct_run _ (a:=c.a) (b:=c.b) (k:=c.k) (o:=c.o) (by rw [hd]; simp) (by rw [hd]; simp) (by rw [hd]; simp) (by rw [hd]; simp) ?_)
 rw [cJS_go _ [fig c.a.toNat,(⟨#[45]⟩:Str),fig c.b.toNat,⟨#[47]⟩,fig c.k.toNat,sgn c.o] Str.empty ?_ ?_,wd_fold]
 ·simp only [List.map_cons,List.map_nil]
  rw [cFmt_int (i:=c.a) g.a.1 g.a.2 (by simp),cFmt_int (i:=c.b) g.b.1 g.b.2 (by simp),cFmt_int (i:=c.k) g.k.1 g.k.2 (by simp),cFmt_str (z:=sgn c.o) (by rw [sgn_len,lim_eq]; decide) (by simp)]
  rfl
 ·simp only [List.map_cons,List.map_nil,List.sum_cons,List.sum_nil,sgn_len]
  rw [lim_eq]
  show 0+(1+(1+(1+(1+(1+(1+0))))))≤1048576
  decide
noncomputable def hdW (N:Net):Str:=⟨#[48+N.sw.toNat,32,48+N.pl.toNat,58]⟩
theorem hd_fold (N:Net):[fig N.sw.toNat,(⟨#[32]⟩:Str),fig N.pl.toNat,⟨#[58]⟩].foldl (·++·) Str.empty=hdW N:=rfl
theorem nt_run (c:CLL) {nd:D}{sw pl:Int}{hw w:Str}{X:List D}{ws:List D}{S S1 S2:Store} (i0:∀ S,oIx nd (.int 0) S=.ok (.int sw) S) (i1:∀ S,oIx nd (.int 1) S=.ok (.int pl) S) (i2:∀ S,oIx nd (.int 2) S=.ok (.tup X) S)
  (e1:cJS [(cFmt (cVar 1)),(cCon (.str (Str.ofString " "))),(cFmt (cVar 2)),(cCon (.str (Str.ofString ":")))] Str.empty [some nd,some (.int sw),some (.int pl)] S=.ok (.str hw) S) (h1:S++[O.lst [.str hw]]=S1) (lX:X.length<lim) (c1:loopC [] .one (fun _=>ret true) (net_text_e1 c) [none] X S1=.ok ws S1) (h2:S1++[O.lst ws]=S2) (a2:oAdd (.lst S.length) (.lst S1.length) S2=.ok (.lst S2.length) (S2++[O.lst (.str hw::ws)]))
  (j:mJoin (.str (Str.ofString " ")) [.lst S2.length] (S2++[O.lst (.str hw::ws)])=.ok (.str w) (S2++[O.lst (.str hw::ws)])):b_net_text c [some nd,none,none] S=.rt (.str w) (S2++[O.lst (.str hw::ws)]):=by
 have s0:∀ ρ:Env1,stE 1 [] ρ=[none]:=fun _=>rfl
 simp [b_net_text,i0,i1,i2,e1,h1,s0,lX,c1,h2,a2,j,tyOk]
theorem wd_len (c:Ct):(wdC c).length=6:=rfl
theorem ws_sum (cs:List Ct):((cs.map wdC).map (·.length)).sum=6*cs.length:=by
 induction cs with
 | nil=>rfl
 | cons c cs ih=>rw [List.map_cons,List.map_cons,List.sum_cons,ih,wd_len,List.length_cons]; omega
theorem net_text_spec (h:Hs_net_text cl) (hc:Hs_contact_text cl) (n:Nat) {N:Net} (ok:N.g) (S:Store):Spc (cl (n+2) "net_text" [N.d] S) (.str (txN N)) S:=by
 have hl:=ok.c1
 have s1:=ok.s1
 have s2:=ok.s2
 have p1:=ok.p1
 have p2:=ok.p2
 obtain ⟨S1,h1⟩:∃ S1,S++[O.lst [.str (hdW N)]]=S1:=⟨_,rfl⟩
 have e1:cJS [(cFmt (cVar 1)),(cCon (.str (Str.ofString " "))),(cFmt (cVar 2)),(cCon (.str (Str.ofString ":")))] Str.empty [some N.d,some (.int N.sw),some (.int N.pl)] S=.ok (.str (hdW N)) S:=by
  rw [cJS_go _ [fig N.sw.toNat,(⟨#[32]⟩:Str),fig N.pl.toNat,⟨#[58]⟩] Str.empty ?_ ?_,hd_fold]
  ·simp only [List.map_cons,List.map_nil]
   rw [cFmt_int (i:=N.sw) (by omega) (by omega) (by simp),cFmt_int (i:=N.pl) (by omega) (by omega) (by simp)]
   rfl
  ·rw [lim_eq]; show 4≤1048576; decide
 have c1:loopC [] .one (fun _=>ret true) (net_text_e1 (cl (n+1))) [none] (N.cs.map Ct.d) S1=.ok ((N.cs.map wdC).map D.str) S1:=by
  rw [List.map_map]
  exact comp_pureM Ct.d (okW_nil S1) _ N.cs fun c hc'=>⟨_,rfl,by simp [net_text_e1,contact_text_spec hc n (cg_of ok hc') S1]⟩
 obtain ⟨S2,h2⟩:∃ S2,S1++[O.lst ((N.cs.map wdC).map D.str)]=S2:=⟨_,rfl⟩
 have l1:lstAt S2 S.length=some [.str (hdW N)]:=by rw [← h2,← h1]; exact lstAt_app (lstAt_new _ _)
 have l2:lstAt S2 S1.length=some ((N.cs.map wdC).map D.str):=by rw [← h2]; exact lstAt_new _ _
 have a2:oAdd (.lst S.length) (.lst S1.length) S2=.ok (.lst S2.length) (S2++[O.lst (.str (hdW N)::(N.cs.map wdC).map D.str)]):=by
  show (match S2[S.length]?,S2[S1.length]? with | some (.lst xs),some (.lst ys)=>if xs.length+ys.length≤lim then R.ok (D.lst S2.length) (S2++[O.lst (xs++ys)]) else .bad | _,_=>.bad)=_
  rw [lstAt_some l1,lstAt_some l2]
  dsimp only
  rw [if_pos (by simp [lim_eq]; omega)]; rfl
 have j:mJoin (.str (Str.ofString " ")) [.lst S2.length] (S2++[O.lst (.str (hdW N)::(N.cs.map wdC).map D.str)])=.ok (.str (txN N)) (S2++[O.lst (.str (hdW N)::(N.cs.map wdC).map D.str)]):=by
  have tj:Txt.join (Str.ofString " ") (hdW N::N.cs.map wdC)=txN N:=by
   unfold txN wsN Txt.join
   rw [StrLaws.glued_eq_join,StrLaws.glued_eq_join,bk_eq]
   exact StrLaws.join_shift bk (fig N.sw.toNat) (endW N) (N.cs.map wdC)
  have jk:JoinOk (Str.ofString " ") (hdW N::N.cs.map wdC)=true:=join_ok (by
   rw [List.map_cons,List.sum_cons,ws_sum,List.length_cons,List.length_map,show (hdW N).length=4 from rfl,show (Str.ofString " ").length=1 from rfl]
   omega)
  have q:=mJoin_lst (S:=S2++[O.lst (.str (hdW N)::(N.cs.map wdC).map D.str)]) (ws:=hdW N::N.cs.map wdC) (lstAt_new S2 _) jk
  rw [tj] at q
  exact q
 refine ⟨S2++[O.lst (.str (hdW N)::(N.cs.map wdC).map D.str)],?_,?_⟩
 ·rw [show n+2=(n+1)+1 from rfl,h]
  exact run_rt rfl (nt_run _ (fun S=>by simp [Net.d]) (fun S=>by simp [Net.d]) (fun S=>by simp [Net.d]) e1 h1 (by rw [List.length_map,lim_eq]; omega) c1 h2 a2 j)
 ·rw [← h2,← h1]; exact ((ex_app _ _).trans (ex_app _ _)).trans (ex_app _ _)
theorem oAdd_str {x y:Str} (h:x.length+y.length≤1000) (S:Store):oAdd (.str x) (.str y) S=.ok (.str (x++y)) S:=by
 show (if x.length+y.length≤lim then R.ok (D.str (x++y)) S else .bad)=_
 rw [if_pos (by rw [lim_eq]; omega)]
noncomputable def sgL:List D:=[.str (Str.ofString "-"),.str (Str.ofString "+")]
theorem lt_l (c:CLL) {v0:Option D}{q:Nat}{a b k o:Int}{s1 s2 s3 sg t1 t2 t3 t4 w:Str}{S S1 S2:Store} (f1:∀ S,fStr [.int a] S=.ok (.str s1) S) (f2:∀ S,fStr [.int b] S=.ok (.str s2) S) (f3:∀ S,fStr [.int k] S=.ok (.str s3) S) (a1:∀ S,oAdd (.str s1) (.str (Str.ofString "-")) S=.ok (.str t1) S) (a2:∀ S,oAdd (.str t1) (.str s2) S=.ok (.str t2) S) (a3:∀ S,oAdd (.str t2) (.str (Str.ofString "/")) S=.ok (.str t3) S) (a4:∀ S,oAdd (.str t3) (.str s3) S=.ok (.str t4) S)
  (h1:S++[O.lst sgL]=S1) (i1:oIx (.lst S.length) (.int o) S1=.ok (.str sg) S1) (a5:∀ S,oAdd (.str t4) (.str sg) S=.ok (.str w) S) (t:tyOk "list" (.lst q) S=true) (m:mList gAppend (.lst q) [.str w] S1=.ok .non S2) :
  law_net_text_l1 c [v0,some (.lst q),some (.int a),some (.int b),some (.int k),some (.int o)] S=.nx [v0,some (.lst q),some (.int a),some (.int b),some (.int k),some (.int o)] S2:=by
 unfold sgL at h1
 simp [law_net_text_l1,t,f1,f2,f3,a1,a2,a3,a4,h1,i1,a5,m]
theorem ln_run (c:CLL) {nd:D}{sw pl:Int}{s1 s2 w1 w:Str}{X:List D}{v2 v3 v4 v5:Option D}{S S1 S2:Store} (i0:∀ S,oIx nd (.int 0) S=.ok (.int sw) S) (i1:∀ S,oIx nd (.int 1) S=.ok (.int pl) S) (i2:∀ S,oIx nd (.int 2) S=.ok (.tup X) S) (f1:∀ S,fStr [.int sw] S=.ok (.str s1) S) (f2:∀ S,fStr [.int pl] S=.ok (.str s2) S) (a1:∀ S,oAdd (.str s2) (.str (Str.ofString ":")) S=.ok (.str w1) S) (h1:S++[O.lst [.str s1,.str w1]]=S1)
  (e2:loopS [] (gT [gN 2,gN 3,gN 4,gN 5]) (law_net_text_l1 c) X [some nd,some (.lst S.length),none,none,none,none] S1=.nx [some nd,some (.lst S.length),v2,v3,v4,v5] S2) (t:tyOk "str" (.str (Str.ofString " ")) S2=true) (j:mJoin (.str (Str.ofString " ")) [.lst S.length] S2=.ok (.str w) S2) :
  b_law_net_text c [some nd,none,none,none,none,none] S=.rt (.str w) S2:=by
 simp [b_law_net_text,i0,i1,i2,f1,f2,a1,h1,e2,t,j]
inductive LnI (nd:D) (q:Nat) (S0:Store) (N:Net) (j:Nat) (ρ:Env1) (S:Store):Prop
 | mk (v2 v3 v4 v5:Option D) (e:ρ=[some nd,some (.lst q),v2,v3,v4,v5]) (x:Ex S0 S) (l:lstAt S q=some ((fig N.sw.toNat::endW N::(N.cs.take j).map wdC).map D.str))
theorem law_net_text_spec (h:Hs_law_net_text cl) (n:Nat) {N:Net} (ok:N.g) (S:Store):Spc (cl (n+1) "_law_net_text" [N.d] S) (.str (txN N)) S:=by
 have hl:=ok.c1
 have s1:=ok.s1
 have s2:=ok.s2
 have p1:=ok.p1
 have p2:=ok.p2
 have li:=lim_big
 obtain ⟨S1,h1⟩:∃ S1,S++[O.lst [.str (fig N.sw.toNat),.str (endW N)]]=S1:=⟨_,rfl⟩
 obtain ⟨ρ',S2,e2,v2,v3,v4,v5,rfl,x2,l2⟩:=loop_inv (w:=[]) (g:=gT [gN 2,gN 3,gN 4,gN 5]) (b:=law_net_text_l1 (cl n)) (items:=N.cs.map Ct.d) (LnI N.d S.length S N) (ρ:=[some N.d,some (.lst S.length),none,none,none,none]) (S:=S1)
  (fun _ _ _ _=>okW_nil _) ⟨none,none,none,none,rfl,h1▸ex_app _ _,by rw [← h1,lstAt_new]; rfl⟩
  (fun j d ρ S' hd hp=>by
   obtain ⟨v2,v3,v4,v5,rfl,x,l⟩:=hp
   rw [List.getElem?_map] at hd
   obtain ⟨c,hc,rfl⟩:=Option.map_eq_some_iff.mp hd
   have g:=cg_of ok (List.mem_of_getElem? hc)
   have jl:j<N.cs.length:=(List.getElem?_eq_some_iff.mp hc).1
   obtain ⟨T1,ht⟩:∃ T1,S'++[O.lst sgL]=T1:=⟨_,rfl⟩
   have lq:=(ht▸ex_app S' [O.lst sgL]:Ex S' T1).lst l fun z=>z
   have ls:lstAt T1 S'.length=some sgL:=by rw [← ht]; exact lstAt_new _ _
   have i1:oIx (.lst S'.length) (.int c.o) T1=.ok (.str (sgn c.o)) T1:=by
    rw [oIx_lst ls]
    rcases g.o with e | e <;> rw [e] <;> rfl
   have m:=app_at (x:=.str (wdC c)) lq (by rw [List.length_map,List.length_cons,List.length_cons,List.length_map,List.length_take]; omega)
   have ew:((((fig c.a.toNat++(⟨#[45]⟩:Str))++fig c.b.toNat)++(⟨#[47]⟩:Str))++fig c.k.toNat)++sgn c.o=wdC c:=by
    unfold sgn wdC fig
    split <;> rfl
   refine ⟨_,_,rfl,_,_,.inl (lt_l _ (a:=c.a) (b:=c.b) (k:=c.k) (o:=c.o) (fStr_int g.a.1 g.a.2) (fStr_int g.b.1 g.b.2) (fStr_int g.k.1 g.k.2) (fun S=>oAdd_str (y:=⟨#[45]⟩) (by show 1+1≤1000; decide) S) (oAdd_str (by show 2+1≤1000; decide)) (fun S=>oAdd_str (y:=⟨#[47]⟩) (by show 3+1≤1000; decide) S) (oAdd_str (by show 4+1≤1000; decide)) ht i1 (fun S=>by rw [oAdd_str (by rw [sgn_len]; show 5+1≤1000; decide),ew]) (tyOk_lst l) m),⟨_,_,_,_,rfl,?_,?_⟩⟩
   ·exact (x.trans (ht▸ex_app S' [O.lst sgL]:Ex S' T1)).setNew (Nat.le_refl _)
   ·rw [lstAt_set lq,List.take_add_one,hc]
    simp)
 rw [List.length_map,List.take_length] at l2
 have j:mJoin (.str (Str.ofString " ")) [.lst S.length] S2=.ok (.str (txN N)) S2:=by
  rw [mJoin_lst l2 (join_ok ?_)]; rfl
  rw [List.map_cons,List.map_cons,List.sum_cons,List.sum_cons,ws_sum,List.length_cons,List.length_cons,List.length_map,show (fig N.sw.toNat).length=1 from rfl,show (endW N).length=2 from rfl,show (Str.ofString " ").length=1 from rfl]
  omega
 refine ⟨S2,?_,x2⟩
 rw [h]
 exact run_rt rfl (ln_run _ (fun S=>by simp [Net.d]) (fun S=>by simp [Net.d]) (fun S=>by simp [Net.d]) (fStr_int (by omega) (by omega)) (fStr_int (by omega) (by omega)) (fun S=>oAdd_str (y:=⟨#[58]⟩) (by show 1+1≤1000; decide) S) h1 e2 rfl j)
theorem figure_spec (h:Hs_figure cl) (n:Nat) {i:Int} (h0:0≤i) (h9:i<10) (S:Store):cl (n+1) "figure" [.str (fig i.toNat)] S=.ok (.int i) S:=by
 rw [h]
 refine run_rt rfl ?_
 have e:mFind (.str (Str.ofString "0123456789")) [.str (fig i.toNat)] S=.ok (.int i) S:=by
  show R.ok (D.int (Txt.find (Str.ofString "0123456789") (fig i.toNat))) S=_
  rw [find_fig h0 h9]
 generalize fig i.toNat=z at *
 simp [b_figure,startE,e,tyOk]
theorem oIx_str {z:Str}{j:Int}{c:Nat} (h:atI z.cps.toList j=some c) (hl:z.length≤1000) (S:Store):oIx (.str z) (.int j) S=.ok (.str ⟨#[c]⟩) S:=by
 show (match atI z.cps.toList j with | some c=>if z.length≤lim then R.ok (D.str ⟨#[c]⟩) S else .bad | none=>.bad)=_
 rw [h]
 dsimp only
 rw [if_pos (by rw [lim_eq]; omega)]
theorem cr_run (c:CLL) {wd:D}{z0 z2 z4 z5:Str}{a b k:Int}{o:Bool}{S:Store} (i0:oIx wd (.int 0) S=.ok (.str z0) S) (i2:oIx wd (.int 2) S=.ok (.str z2) S) (i4:oIx wd (.int 4) S=.ok (.str z4) S) (i5:oIx wd (.int 5) S=.ok (.str z5) S) (e0:c "figure" [.str z0] S=.ok (.int a) S) (e2:c "figure" [.str z2] S=.ok (.int b) S) (e4:c "figure" [.str z4] S=.ok (.int k) S) (q:oEq (.str z5) (.str (Str.ofString "+")) S=.ok (.bl o) S) :
  b_contact_read c [some wd] S=.rt (.tup [.int a,.int b,.int k,.int (if o then 1 else 0)]) S:=by
 cases o <;> simp [b_contact_read,i0,i2,i4,i5,e0,e2,e4,q]
theorem contact_read_spec (h:Hs_contact_read cl) (hf:Hs_figure cl) (n:Nat) {c:Ct} (g:Cg c) (S:Store):cl (n+2) "contact_read" [.str (wdC c)] S=.ok c.d S:=by
 have hd:c.d=.tup [.int c.a,.int c.b,.int c.k,.int c.o]:=rfl
 have l6:(wdC c).length≤1000:=by rw [wd_len]; decide
 have q:oEq (.str (⟨#[if c.o=1 then 43 else 45]⟩:Str)) (.str (Str.ofString "+")) S=.ok (.bl (decide (c.o=1))) S:=by
  show R.ok (D.bl (decide ((⟨#[if c.o=1 then 43 else 45]⟩:Str)=Str.ofString "+"))) S=_
  rcases g.o with e | e <;> rw [e] <;> rfl
 have eo:(if decide (c.o=1)=true then (1:Int) else 0)=c.o:=by
  rcases g.o with e | e <;> rw [e] <;> rfl
 rw [show n+2=(n+1)+1 from rfl,h,hd]
 have r:=cr_run (cl (n+1)) (wd:=.str (wdC c)) (oIx_str (j:=0) rfl l6 S) (oIx_str (j:=2) rfl l6 S) (oIx_str (j:=4) rfl l6 S) (oIx_str (j:=5) rfl l6 S) (figure_spec hf n g.a.1 g.a.2 S) (figure_spec hf n g.b.1 g.b.2 S) (figure_spec hf n g.k.1 g.k.2 S) q
 rw [eo] at r
 exact run_rt rfl r
theorem fLen_str {z:Str} (h:z.length≤1000) (S:Store):fLen [.str z] S=.ok (.int (z.length:Int)) S:=by
 show (if z.length≤lim then R.ok (D.int (z.length:Int)) S else .bad)=_
 rw [if_pos (by rw [lim_eq]; omega)]
theorem hl_run (c:CLL) {k:Nat}{len:Int}{z0 z1:D}{X ws:List D}{S S1:Store} (f:fLen [.lst k] S=.ok (.int len) S) (h2:¬ len<2) (i0:oIx (.lst k) (.int 0) S=.ok z0 S) (i1:oIx (.lst k) (.int 1) S=.ok z1 S) (f0:fLen [z0] S=.ok (.int 1) S) (f1:fLen [z1] S=.ok (.int 2) S) (sl:oSl (.lst k) (some 2) none S=.ok (.lst S.length) S1) (l1:lstAt S1 S.length=some X) (lX:X.length<lim)
  (c1:loopC [(S.length,X)] .one (fun _=>ret true) (has_lengths_of_net_e1 c) [none] X S1=.ok ws S1) (b:fBools (fun bs=>bs.all id) [.lst S1.length] (S1++[O.lst ws])=.ok (.bl true) (S1++[O.lst ws])) :
  b_has_lengths_of_net c [some (.lst k)] S=.rt (.bl true) (S1++[O.lst ws]):=by
 have s0:∀ ρ:Env1,stE 1 [] ρ=[none]:=fun _=>rfl
 simp [b_has_lengths_of_net,f,h2,i0,i1,f0,f1,sl,l1,s0,lX,c1,b]
theorem cut2 (a b:D) (r:List D):cutD (a::b::r) (some 2) none=r:=by
 have:=cutD_drop (a::b::r) (k:=2) (by decide)
 rw [this]; rfl
theorem boolsOf_true:∀ l:List Str,boolsOf (l.map fun _=>D.bl true)=some (l.map fun _=>true)
 | []=>rfl
 | _::r=>by
  show (boolsOf (r.map fun _=>D.bl true)).map (_::·)=_
  rw [boolsOf_true r]; rfl
theorem fBools_t {S:Store}{n:Nat}{l:List Str} (h:lstAt S n=some (l.map fun _=>D.bl true)):fBools (fun bs=>bs.all id) [.lst n] S=.ok (.bl true) S:=by
 unfold fBools
 dsimp only
 rw [h]
 show (match boolsOf (l.map fun _=>D.bl true) with | some bs=>R.ok (D.bl (bs.all id)) S | none=>.bad)=_
 rw [boolsOf_true]
 have:(l.map fun _=>true).all id=true:=by rw [List.all_map]; exact List.all_eq_true.mpr fun _ _=>rfl
 dsimp only
 rw [this]
theorem ix_01 {S:Store}{k:Nat}{a b:D}{r:List D} (l:lstAt S k=some (a::b::r)):oIx (.lst k) (.int 0) S=.ok a S∧oIx (.lst k) (.int 1) S=.ok b S:=by
 have e0:=oIx_lst l ((0:Nat):Int)
 have e1:=oIx_lst l ((1:Nat):Int)
 rw [atI_nat (v:=a) rfl] at e0
 rw [atI_nat (v:=b) rfl] at e1
 exact ⟨e0,e1⟩
theorem lengths_spec (h:Hs_has_lengths_of_net cl) (n:Nat) {N:Net} (ok:N.g) {S:Store}{k:Nat} (l:lstAt S k=some ((wsN N).map D.str)):∃ S1,cl (n+1) "has_lengths_of_net" [.lst k] S=.ok (.bl true) S1∧Ex S S1:=by
 have hl:=ok.c1
 have lw:(wsN N).map D.str=.str (fig N.sw.toNat)::.str (endW N)::(N.cs.map wdC).map D.str:=rfl
 rw [lw] at l
 have sl:=oSl_lst l (some 2) none
 rw [cut2] at sl
 obtain ⟨S1,h1⟩:∃ S1,S++[O.lst ((N.cs.map wdC).map D.str)]=S1:=⟨_,rfl⟩
 rw [h1] at sl
 have l1:lstAt S1 S.length=some ((N.cs.map wdC).map D.str):=by rw [← h1]; exact lstAt_new _ _
 have c1:loopC [(S.length,(N.cs.map wdC).map D.str)] .one (fun _=>ret true) (has_lengths_of_net_e1 (cl n)) [none] ((N.cs.map wdC).map D.str) S1=.ok ((N.cs.map wdC).map fun _=>D.bl true) S1:=by
  refine comp_pureM D.str (okW_one l1) (fun _=>D.bl true) (N.cs.map wdC) fun w hw=>⟨_,rfl,?_⟩
  obtain ⟨c,_,rfl⟩:=List.mem_map.mp hw
  have:=fLen_str (z:=wdC c) (by rw [wd_len]; decide) S1
  rw [wd_len] at this
  generalize wdC c=z at *
  simp [has_lengths_of_net_e1,this]
 have b:fBools (fun bs=>bs.all id) [.lst S1.length] (S1++[O.lst ((N.cs.map wdC).map fun _=>D.bl true)])=.ok (.bl true) (S1++[O.lst ((N.cs.map wdC).map fun _=>D.bl true)]):=by
  exact fBools_t (lstAt_new S1 _)
 refine ⟨S1++[O.lst ((N.cs.map wdC).map fun _=>D.bl true)],?_,(h1▸ex_app _ _:Ex S S1).trans (ex_app _ _)⟩
 rw [h]
 exact run_rt rfl (hl_run _ (fLen_lst l) (by rw [List.length_cons,List.length_cons]; omega) (ix_01 l).1 (ix_01 l).2 (fLen_str (z:=fig N.sw.toNat) (by show 1≤1000; decide) S) (fLen_str (z:=endW N) (by show 2≤1000; decide) S) sl l1 (by rw [List.length_map,List.length_map,lim_eq]; omega) c1 b)
structure HRd (cl:Nat→CLL):Prop where
 fi:Hs_figure cl
 hl:Hs_has_lengths_of_net cl
 cr:Hs_contact_read cl
 nr:Hs_net_read cl
 nt:Hs_net_text cl
 ct:Hs_contact_text cl
 ins:Hs_is_net cl
 ic:Hs_is_contact cl
 ib:Hs_is_bit cl
 iw:Hs_is_whole cl
theorem ws_free (N:Net):∀ w∈wsN N,32∉w.cps.toList:=fun w hw=>by
 unfold wsN at hw
 rcases List.mem_cons.mp hw with rfl | hw
 ·show 32∉[48+N.sw.toNat]
  simp only [List.mem_singleton]; omega
 ·rcases List.mem_cons.mp hw with rfl | hw
  ·show 32∉[48+N.pl.toNat,58]
   simp only [List.mem_cons,List.not_mem_nil,or_false]; omega
  ·obtain ⟨c,_,rfl⟩:=List.mem_map.mp hw
   show 32∉[48+c.a.toNat,45,48+c.b.toNat,47,48+c.k.toNat,if c.o=1 then 43 else 45]
   simp only [List.mem_cons,List.not_mem_nil,or_false]
   split <;> omega
theorem tx_split (N:Net):Txt.split (txN N) bk=wsN N:=by
 unfold txN Txt.join
 rw [StrLaws.glued_eq_join]
 exact split_join (c:=32) (by simp [wsN]) (ws_free N)
theorem tx_len {N:Net} (ok:N.g):(txN N).length≤1000:=by
 have hl:=ok.c1
 unfold txN Txt.join
 rw [StrLaws.glued_eq_join]
 refine Nat.le_trans (StrLaws.join_length_le bk (wsN N)) ?_
 unfold wsN
 rw [List.map_cons,List.map_cons,List.sum_cons,List.sum_cons,ws_sum,List.length_cons,List.length_cons,List.length_map,show (fig N.sw.toNat).length=1 from rfl,show (endW N).length=2 from rfl,show bk.length=1 from rfl]
 omega
theorem split_spec {N:Net} (ok:N.g) (S:Store):mSplit (.str (txN N)) [.str (Str.ofString " ")] S=.ok (.lst S.length) (S++[O.lst ((wsN N).map D.str)]):=by
 have e:=tx_split N
 have p:=parts_len (x:=txN N) (y:=bk) (by rw [e]; simp [wsN])
 have l1:=tx_len ok
 have hl:=ok.c1
 unfold mSplit
 dsimp only
 rw [bk_eq,if_pos ⟨rfl,by rw [lim_eq]; omega,by rw [p,e,lim_eq]; simp [wsN]; omega⟩,e]
theorem nr_run (c:CLL) {td:Str}{k:Nat}{z0 z1 z2:Str}{sw pl:Int}{X ws:List D}{S S1 S2 S3 S4 S5 S6:Store} (t:fInst [.str td,.ty "str"] S=.ok (.bl true) S) (ty:tyOk "str" (.str td) S=true) (sp:mSplit (.str td) [.str (Str.ofString " ")] S=.ok (.lst k) S1) (e1:c "has_lengths_of_net" [.lst k] S1=.ok (.bl true) S2) (i0:oIx (.lst k) (.int 0) S2=.ok (.str z0) S2) (f0:c "figure" [.str z0] S2=.ok (.int sw) S2) (i1:oIx (.lst k) (.int 1) S2=.ok (.str z1) S2) (i2:oIx (.str z1) (.int 0) S2=.ok (.str z2) S2) (f1:c "figure" [.str z2] S2=.ok (.int pl) S2)
  (sl:oSl (.lst k) (some 2) none S2=.ok (.lst S2.length) S3) (l3:lstAt S3 S2.length=some X) (lX:X.length<lim) (c1:loopC [(S2.length,X)] .one (fun _=>ret true) (net_read_e1 c) [none] X S3=.ok ws S3) (h4:S3++[O.lst ws]=S4) (tp:fTuple [.lst S3.length] S4=.ok (.tup ws) S4) (e5:c "is_net" [.tup [.int sw,.int pl,.tup ws]] S4=.ok (.bl true) S5) (e6:c "net_text" [.tup [.int sw,.int pl,.tup ws]] S5=.ok (.str td) S6) (q:oNe (.str td) (.str td) S6=.ok (.bl false) S6) :
  b_net_read c [some (.str td),none,none] S=.rt (.tup [.int sw,.int pl,.tup ws]) S6:=by
 have s0:∀ ρ:Env1,stE 1 [] ρ=[none]:=fun _=>rfl
 simp [b_net_read,t,ty,sp,e1,i0,f0,i1,i2,f1,sl,l3,lX,s0,c1,h4,tp,e5,e6,q]
theorem net_read_spec (H:HRd cl) (n:Nat) {N:Net} (ok:N.g) (S:Store):Spc (cl (n+5) "net_read" [.str (txN N)] S) N.d S:=by
 have hl:=ok.c1
 have s1:=ok.s1
 have s2:=ok.s2
 have p1:=ok.p1
 have p2:=ok.p2
 have sp:=split_spec ok S
 obtain ⟨S1,h1⟩:∃ S1,S++[O.lst ((wsN N).map D.str)]=S1:=⟨_,rfl⟩
 rw [h1] at sp
 have l1:lstAt S1 S.length=some ((wsN N).map D.str):=by rw [← h1]; exact lstAt_new _ _
 obtain ⟨S2,e1,x2⟩:=lengths_spec H.hl (n+3) ok l1
 have l2:lstAt S2 S.length=some (.str (fig N.sw.toNat)::.str (endW N)::(N.cs.map wdC).map D.str):=x2.lst l1 fun z=>z
 have sl:=oSl_lst l2 (some 2) none
 rw [cut2] at sl
 obtain ⟨S3,h3⟩:∃ S3,S2++[O.lst ((N.cs.map wdC).map D.str)]=S3:=⟨_,rfl⟩
 rw [h3] at sl
 have l3:lstAt S3 S2.length=some ((N.cs.map wdC).map D.str):=by rw [← h3]; exact lstAt_new _ _
 have c1:loopC [(S2.length,(N.cs.map wdC).map D.str)] .one (fun _=>ret true) (net_read_e1 (cl (n+4))) [none] ((N.cs.map wdC).map D.str) S3=.ok (N.cs.map Ct.d) S3:=by
  have:=comp_pureM (fun c=>D.str (wdC c)) (w:=[(S2.length,(N.cs.map wdC).map D.str)]) (t:=.one) (c:=net_read_e1 (cl (n+4))) (ρ0:=[none]) (S:=S3) (okW_one l3) Ct.d N.cs fun c hc=>⟨_,rfl,by
   have e:=contact_read_spec H.cr H.fi (n+2) (cg_of ok hc) S3
   generalize wdC c=z at *
   simp [net_read_e1,e]⟩
  rw [List.map_map] at this ⊢
  exact this
 obtain ⟨S4,h4⟩:∃ S4,S3++[O.lst (N.cs.map Ct.d)]=S4:=⟨_,rfl⟩
 have tp:fTuple [.lst S3.length] S4=.ok (.tup (N.cs.map Ct.d)) S4:=by rw [← h4]; exact fTuple_lst (lstAt_new _ _)
 obtain ⟨S5,e5,x5⟩:=is_net_spec H.ins H.ic H.ib H.iw n (N:=N) ok S4
 obtain ⟨S6,e6,x6⟩:=net_text_spec H.nt H.ct (n+2) ok S5
 have q:oNe (.str (txN N)) (.str (txN N)) S6=.ok (.bl false) S6:=by
  show R.ok (D.bl (!decide (txN N=txN N))) S6=_
  rw [decide_eq_true rfl]; rfl
 refine ⟨S6,?_,(h1▸ex_app _ _:Ex S S1).trans (x2.trans ((h3▸ex_app _ _:Ex S2 S3).trans ((h4▸ex_app _ _:Ex S3 S4).trans (x5.trans x6))))⟩
 rw [show n+5=(n+4)+1 from rfl,H.nr]
 exact run_rt rfl (nr_run _ rfl rfl sp e1 (ix_01 l2).1 (figure_spec H.fi (n+3) (by omega) (by omega) S2) (ix_01 l2).2 (oIx_str (c:=48+N.pl.toNat) rfl (by show 2≤1000; decide) S2) (figure_spec H.fi (n+3) (i:=N.pl) (by omega) (by omega) S2) sl l3 (by rw [List.length_map,List.length_map,lim_eq]; omega) c1 h4 tp e5 e6 q)
open PySem L2
theorem oIsX_xc {c g:Str} (hc:c∈xoL) (S:Store):oIsX g (.xc c) S=.ok (.bl (c == g||g == ("ValueError":Str))) S:=by
 unfold oIsX; dsimp only; rw [if_pos hc]
noncomputable def xoN:List (Str × Int):=[("TooMany",0),("NoContact",1),("NoBridge",2),("NoName",3),("BadNote",4),("NoPlace",5),("NoTable",6)]
noncomputable abbrev flg (b0 b1 b2 b3 b4 b5 b6:Bool):List (Int × Bool):=[(0,b0),(1,b1),(2,b2),(3,b3),(4,b4),(5,b5),(6,b6)]
theorem rf_comp {S:Store}{n:Nat}{b0 b1 b2 b3 b4 b5 b6:Bool}{ρ:Env1} (h:lstAt S n=some [.bl b0,.bl b1,.bl b2,.bl b3,.bl b4,.bl b5,.bl b6]) (hρ:ρ[3]?=some (some (.lst n))) :
  loopC [] .one (cTru (cBin oIx (cVar 1) (cVar 0))) (cVar 0) (stE 1 [3] ρ) (upD 0 7) S=.ok ((((flg b0 b1 b2 b3 b4 b5 b6).filter (·.2)).map (·.1)).map D.int) S:=by
 have e:upD 0 7=(flg b0 b1 b2 b3 b4 b5 b6).map fun p=>D.int p.1:=rfl
 rw [e,List.map_map]
 refine comp_pure (fun p:Int × Bool=>D.int p.1) (okW_nil _) (·.2) (fun p=>D.int p.1) _ fun p hp=>?_
 have es:stE 1 [3] ρ=[none,some (.lst n)]:=by unfold stE; simp [hρ]
 rw [es]
 refine ⟨[some (.int p.1),some (.lst n)],rfl,?_,fun _=>rfl⟩
 have ex:oIx (.lst n) (.int p.1) S=.ok (.bl p.2) S:=by
  rw [oIx_lst h]
  simp only [List.mem_cons,List.not_mem_nil,or_false] at hp
  rcases hp with rfl | rfl | rfl | rfl | rfl | rfl | rfl <;> rfl
 simp [ex]
theorem rf_body {c:Str}{S:Store}{b0 b1 b2 b3 b4 b5 b6:Bool} (hc:c∈xoL) (h0:(c == ("TooMany":Str)||("TooMany":Str) == "ValueError")=b0) (h1:(c == ("NoContact":Str)||("NoContact":Str) == "ValueError")=b1) (h2:(c == ("NoBridge":Str)||("NoBridge":Str) == "ValueError")=b2) (h3:(c == ("NoName":Str)||("NoName":Str) == "ValueError")=b3)
  (h4:(c == ("BadNote":Str)||("BadNote":Str) == "ValueError")=b4) (h5:(c == ("NoPlace":Str)||("NoPlace":Str) == "ValueError")=b5) (h6:(c == ("NoTable":Str)||("NoTable":Str) == "ValueError")=b6) :
  ∃ n S',endR (rfB (rfE 4 (.xc c)) S)=.ok (.lst n) S'∧lstAt S' n=some ((((flg b0 b1 b2 b3 b4 b5 b6).filter (·.2)).map (·.1)).map D.int)∧Ex S S':=by
 obtain ⟨S1,hS1⟩:∃ S1,S++[O.lst [.bl b0,.bl b1,.bl b2]]=S1:=⟨_,rfl⟩
 obtain ⟨S2,hS2⟩:∃ S2,S1++[O.lst [.bl b3,.bl b4,.bl b5]]=S2:=⟨_,rfl⟩
 obtain ⟨S3,hS3⟩:∃ S3,S2++[O.lst [.bl b0,.bl b1,.bl b2,.bl b3,.bl b4,.bl b5]]=S3:=⟨_,rfl⟩
 obtain ⟨S4,hS4⟩:∃ S4,S3.set S2.length (O.lst [.bl b0,.bl b1,.bl b2,.bl b3,.bl b4,.bl b5,.bl b6])=S4:=⟨_,rfl⟩
 have l1:lstAt S1 S.length=some [.bl b0,.bl b1,.bl b2]:=by rw [← hS1]; exact lstAt_new _ _
 have l1':lstAt S2 S.length=some [.bl b0,.bl b1,.bl b2]:=by rw [← hS2]; exact lstAt_app l1
 have l2:lstAt S2 S1.length=some [.bl b3,.bl b4,.bl b5]:=by rw [← hS2]; exact lstAt_new _ _
 have l3:lstAt S3 S2.length=some [.bl b0,.bl b1,.bl b2,.bl b3,.bl b4,.bl b5]:=by rw [← hS3]; exact lstAt_new _ _
 have l4:lstAt S4 S2.length=some [.bl b0,.bl b1,.bl b2,.bl b3,.bl b4,.bl b5,.bl b6]:=by rw [← hS4]; exact lstAt_set l3
 have lm6:(6:Nat)<lim:=by decide
 have lm7:(upD 0 7).length<lim:=by decide
 have ea:=oAdd_lst l1' l2 (show 3+3≤lim by decide)
 simp only [List.cons_append,List.nil_append] at ea
 rw [hS3] at ea
 have em:=mList_ev l3 gAppend [.bl b6]
 have et:=tyOk_lst l3
 obtain ⟨W,hW⟩:∃ W,(((flg b0 b1 b2 b3 b4 b5 b6).filter (·.2)).map (·.1)).map D.int=W:=⟨_,rfl⟩
 have ec:=rf_comp (ρ:=[none,some (.xc c),none,some (.lst S2.length)]) l4 rfl
 rw [hW,show stE 1 [3] [none,some (D.xc c),none,some (.lst S2.length)]=[none,some (.lst S2.length)] from rfl] at ec
 rw [hW]
 have x4:Ex S S4:=by
  have k:Kp (·=S2.length) S3 S4:=by rw [← hS4]; exact kp_set _ _
  have x3:Ex S S3:=((hS1▸ex_app _ _:Ex S S1).trans (hS2▸ex_app _ _:Ex S1 S2)).trans (hS3▸ex_app _ _:Ex S2 S3)
  refine ⟨Nat.le_trans x3.le k.le,fun j hj hn=>(k.eq j (Nat.lt_of_lt_of_le hj x3.le) ?_).trans (x3.eq j hj hn)⟩
  intro z
  have:S.length≤S2.length:=((hS1▸ex_app _ _:Ex S S1).trans (hS2▸ex_app _ _:Ex S1 S2)).le
  omega
 have hv:oIsX "ValueError" (.xc c)=fun S=>.ok (.bl true) S:=by funext S; rw [oIsX_xc hc,beq_self_eq_true,Bool.or_true]
 have g0:oIsX "TooMany" (.xc c)=fun S=>.ok (.bl b0) S:=by funext S; rw [oIsX_xc hc,h0]
 have g1:oIsX "NoContact" (.xc c)=fun S=>.ok (.bl b1) S:=by funext S; rw [oIsX_xc hc,h1]
 have g2:oIsX "NoBridge" (.xc c)=fun S=>.ok (.bl b2) S:=by funext S; rw [oIsX_xc hc,h2]
 have g3:oIsX "NoName" (.xc c)=fun S=>.ok (.bl b3) S:=by funext S; rw [oIsX_xc hc,h3]
 have g4:oIsX "BadNote" (.xc c)=fun S=>.ok (.bl b4) S:=by funext S; rw [oIsX_xc hc,h4]
 have g5:oIsX "NoPlace" (.xc c)=fun S=>.ok (.bl b5) S:=by funext S; rw [oIsX_xc hc,h5]
 have g6:oIsX "NoTable" (.xc c)=fun S=>.ok (.bl b6) S:=by funext S; rw [oIsX_xc hc,h6]
 refine ⟨S4.length,S4++[.lst W],?_,lstAt_new _ _,x4.trans (ex_app _ _)⟩
 have er:rfE 4 (.xc c)=[none,some (.xc c),none,none]:=rfl
 rw [er]
 simp [rfB,g0,g1,g2,g3,g4,g5,g6,hv,hS1,hS2,ea,em,et,hS4,ec,endR,lm6,lm7]
theorem rfB_run {c:Str}{k:Int} (hc:(c,k)∈xoN) (S:Store):∃ n S',endR (rfB (rfE 4 (.xc c)) S)=.ok (.lst n) S'∧lstAt S' n=some [.int k]∧Ex S S':=by
 simp only [xoN,List.mem_cons,List.not_mem_nil,or_false,Prod.mk.injEq] at hc
 rcases hc with ⟨rfl,rfl⟩ | ⟨rfl,rfl⟩ | ⟨rfl,rfl⟩ | ⟨rfl,rfl⟩ | ⟨rfl,rfl⟩ | ⟨rfl,rfl⟩ | ⟨rfl,rfl⟩
 ·exact rf_body (b0:=true) (b1:=false) (b2:=false) (b3:=false) (b4:=false) (b5:=false) (b6:=false) (by decide +kernel) (by decide +kernel) (by decide +kernel) (by decide +kernel) (by decide +kernel) (by decide +kernel) (by decide +kernel) (by decide +kernel)
 ·exact rf_body (b0:=false) (b1:=true) (b2:=false) (b3:=false) (b4:=false) (b5:=false) (b6:=false) (by decide +kernel) (by decide +kernel) (by decide +kernel) (by decide +kernel) (by decide +kernel) (by decide +kernel) (by decide +kernel) (by decide +kernel)
 ·exact rf_body (b0:=false) (b1:=false) (b2:=true) (b3:=false) (b4:=false) (b5:=false) (b6:=false) (by decide +kernel) (by decide +kernel) (by decide +kernel) (by decide +kernel) (by decide +kernel) (by decide +kernel) (by decide +kernel) (by decide +kernel)
 ·exact rf_body (b0:=false) (b1:=false) (b2:=false) (b3:=true) (b4:=false) (b5:=false) (b6:=false) (by decide +kernel) (by decide +kernel) (by decide +kernel) (by decide +kernel) (by decide +kernel) (by decide +kernel) (by decide +kernel) (by decide +kernel)
 ·exact rf_body (b0:=false) (b1:=false) (b2:=false) (b3:=false) (b4:=true) (b5:=false) (b6:=false) (by decide +kernel) (by decide +kernel) (by decide +kernel) (by decide +kernel) (by decide +kernel) (by decide +kernel) (by decide +kernel) (by decide +kernel)
 ·exact rf_body (b0:=false) (b1:=false) (b2:=false) (b3:=false) (b4:=false) (b5:=true) (b6:=false) (by decide +kernel) (by decide +kernel) (by decide +kernel) (by decide +kernel) (by decide +kernel) (by decide +kernel) (by decide +kernel) (by decide +kernel)
 ·exact rf_body (b0:=false) (b1:=false) (b2:=false) (b3:=false) (b4:=false) (b5:=false) (b6:=true) (by decide +kernel) (by decide +kernel) (by decide +kernel) (by decide +kernel) (by decide +kernel) (by decide +kernel) (by decide +kernel) (by decide +kernel)
inductive RfRt (r:R D) (k:Int) (S:Store):Prop
 | mk (n:Nat) (S1:Store) (e:r=.ok (.lst n) S1) (l:lstAt S1 n=some [.int k]) (x:Ex S S1)
theorem rfz_er {c:Str}{k:Int}{js:List Nat}{cb:C}{ρ:Env1}{S S1:Store} (hc:(c,k)∈xoN) (h:S[0]?=some (.tb lamD)) (e:cb (stE 0 js ρ) S=.er c S1):RfRt (cRefuse lamD 4 rfB js cb ρ S) k S1:=by
 have hm:c∈xoL:=by
  simp only [xoN,List.mem_cons,List.not_mem_nil,or_false,Prod.mk.injEq] at hc
  rcases hc with ⟨rfl,_⟩ | ⟨rfl,_⟩ | ⟨rfl,_⟩ | ⟨rfl,_⟩ | ⟨rfl,_⟩ | ⟨rfl,_⟩ | ⟨rfl,_⟩ <;> decide +kernel
 obtain ⟨n,S',q1,q2,q3⟩:=rfB_run hc S1
 refine ⟨n,S',?_,q2,q3⟩
 unfold cRefuse
 rw [if_pos (tbAt_of h),e]
 show (if c∈xoL then endR (rfB (rfE 4 (.xc c)) S1) else .bad)=_
 rw [if_pos hm,q1]
open Builtin Builtin.Str in
theorem parts_le (z:Str):(partsBetween z (occurrences z bk 0 z.length (z.length+1)) bk.length).length≤z.length+2:=by
 have h:=StrLaws.occ_length_le_len z bk 0 z.length (z.length+1)
 rw [StrLaws.partsBetween_eq,← StrLaws.zip_parts,List.length_map,List.length_zip,List.length_cons,List.length_append,List.length_map]
 simp only [List.length_cons,List.length_nil]
 omega
noncomputable abbrev sp (z:Str):List Str:=Txt.split z bk
theorem split_any {z:Str} (h:z.length≤5000) (S:Store):mSplit (.str z) [.str (Str.ofString " ")] S=.ok (.lst S.length) (S++[O.lst ((sp z).map D.str)]):=by
 have p:=parts_le z
 unfold mSplit
 dsimp only
 rw [bk_eq,if_pos ⟨rfl,by rw [lim_eq]; omega,by rw [lim_eq]; omega⟩]
theorem sp_ne (z:Str):sp z≠[]:=split_ne z bk
theorem sp_join (z:Str):Str.join bk (sp z)=z:=StrLaws.join_split z bk
theorem inter_len {c:Nat}:∀ us:List (List Nat),us≠[]→(inter c us).length+1=(us.map List.length).sum+us.length
 | [],h=>absurd rfl h
 | [x],_=>by simp [inter]
 | x::y::r,_=>by
  have ih:=inter_len (c:=c) (y::r) (by simp)
  rw [List.map_cons,List.sum_cons,List.length_cons]
  show (x++c::inter c (y::r)).length+1=_
  rw [List.length_append,List.length_cons]
  omega
theorem cps_len (z:Str):z.cps.toList.length=z.length:=Array.length_toList
theorem join_len (ws:List Str) (h:ws≠[]):(Str.join bk ws).length+1=(ws.map (·.length)).sum+ws.length:=by
 have e:=inter_len (c:=32) (ws.map (·.cps.toList)) (by simpa using h)
 have j:=join_list 32 ws
 rw [← j,cps_len,List.map_map,List.length_map] at e
 have e2:ws.map (List.length∘fun x=>x.cps.toList)=ws.map (·.length):=List.map_congr_left fun w _=>cps_len w
 rw [e2] at e
 exact e
theorem sp_sum (z:Str):((sp z).map (·.length)).sum+(sp z).length=z.length+1:=by
 have:=join_len (sp z) (sp_ne z)
 rw [sp_join] at this
 omega
theorem mem_sum:∀ {l:List Str}{w:Str},w∈l→w.length≤(l.map (·.length)).sum
 | a::l,w,h=>by
  rw [List.map_cons,List.sum_cons]
  rcases List.mem_cons.mp h with rfl | h
  ·omega
  ·have:=mem_sum h; omega
theorem sp_len (z:Str):(sp z).length≤z.length+1:=by have:=sp_sum z; omega
theorem sp_in {z w:Str} (h:w∈sp z):w.length≤z.length:=by
 have:=sp_sum z
 have:=mem_sum h
 have:=List.length_pos_iff.mpr (sp_ne z)
 omega
def Asc (z:Str):Prop:=∀ c∈z.cps.toList,c<128
theorem mem_inter {c x:Nat}:∀ {us:List (List Nat)}{u:List Nat},u∈us→x∈u→x∈inter c us
 | [y],u,h,hx=>by rw [List.mem_singleton.mp h] at hx; exact hx
 | y::y2::r,u,h,hx=>by
  show x∈y++c::inter c (y2::r)
  rcases List.mem_cons.mp h with rfl | h
  ·exact List.mem_append_left _ hx
  ·exact List.mem_append_right _ (List.mem_cons_of_mem _ (mem_inter h hx))
theorem inter_mem {c x:Nat}:∀ {us:List (List Nat)},x∈inter c us→x=c∨∃ u∈us,x∈u
 | [],h=>by cases h
 | [y],h=>.inr ⟨y,List.mem_singleton_self _,h⟩
 | y::y2::r,h=>by
  have h:x∈y++c::inter c (y2::r):=h
  rcases List.mem_append.mp h with h | h
  ·exact .inr ⟨y,List.mem_cons_self ..,h⟩
  ·rcases List.mem_cons.mp h with h | h
   ·exact .inl h
   ·rcases inter_mem h with q | ⟨u,hu,q⟩
    ·exact .inl q
    ·exact .inr ⟨u,List.mem_cons_of_mem _ hu,q⟩
theorem Asc.sp {z w:Str} (h:Asc z) (hw:w∈sp z):Asc w:=fun c hc=>h c (by
 have j:=join_list 32 (Txt.split z bk)
 have e:Str.join (⟨#[32]⟩:Str) (Txt.split z bk)=z:=sp_join z
 rw [e] at j
 rw [j]
 exact mem_inter (List.mem_map.mpr ⟨w,hw,rfl⟩) hc)
theorem asc_join {ws:List Str} (h:∀ w∈ws,Asc w):Asc (Str.join bk ws):=fun c hc=>by
 have j:=join_list 32 ws
 have hc':c∈inter 32 (ws.map (·.cps.toList)):=by rw [← j]; exact hc
 rcases inter_mem hc' with rfl | ⟨u,hu,q⟩
 ·decide
 ·obtain ⟨w,hw,rfl⟩:=List.mem_map.mp hu
  exact h w hw c q
theorem asc_app {x y:Str} (hx:Asc x) (hy:Asc y):Asc (x++y):=fun c hc=>by
 have e:(x++y).cps.toList=x.cps.toList++y.cps.toList:=Array.toList_append
 rw [e] at hc
 rcases List.mem_append.mp hc with q | q
 ·exact hx c q
 ·exact hy c q
theorem asc_slice {x:Str} (h:Asc x) (l u:Option Int):Asc (Txt.slice x l u):=fun c hc=>by
 unfold Txt.slice at hc
 split at hc
 ·exact h c hc
 ·obtain ⟨i,_,e⟩:=List.mem_filterMap.mp hc
  exact h c (Array.mem_toList_iff.mpr (Array.mem_of_getElem? e))
theorem Asc.ok {z:Str} (h:Asc z):PyData.strOk z=true:=by
 unfold PyData.strOk
 rw [Array.all_eq_true']
 intro c hc
 have:=h c (Array.mem_toList_iff.mpr hc)
 exact decide_eq_true (by omega)
def IsN (z:Str):Prop:=∃ N:Net,N.g∧z=txN N
theorem of_ws {z:Str}{N:Net} (h:sp z=wsN N):z=txN N:=by
 have:=sp_join z
 rw [h] at this
 rw [← this]
 unfold txN Txt.join
 rw [StrLaws.glued_eq_join]
inductive BlR (r:R D) (P:Prop) (S:Store):Prop
 | mk (b:Bool) (S1:Store) (e:r=.ok (.bl b) S1) (h:b=true↔P) (x:Ex S S1)
theorem ict_run (c:CLL) {sw pl:Int}{t:Ct}{b3:Bool}{S S1:Store} (e2:loopC [] .one (fun _=>ret true) (is_contact_e1 c) [none] [.int t.a,.int t.b,.int t.k,.int t.o] S=.ok [.bl true,.bl true,.bl true,.bl true] S) (h1:S++[O.lst [.bl true,.bl true,.bl true,.bl true]]=S1) (a1:fBools (fun bs=>bs.all id) [.lst S.length] S1=.ok (.bl true) S1)
  (b1:c "is_bit" [.int t.o] S1=.ok (.bl b3) S1) (hb:b3=true↔0≤t.o∧t.o<2):∃ b,b_is_contact c [some (.int sw),some (.int pl),some t.d] S=.rt (.bl b) S1∧(b=true↔t.ok sw pl):=by
 have q4:4<lim:=by decide
 unfold Ct.ok
 by_cases ha:0≤t.a∧t.a<t.b∧t.b<pl
 ·obtain ⟨a0,ab,bp⟩:=ha
  have hch:cChain3 (oCmp fun i j=>decide (i≤j)) oLt oLt (cCon (.int 0)) (cBin oIx (cVar 2) (cCon (.int 0))) (cBin oIx (cVar 2) (cCon (.int 1))) (cVar 1) [some (.int sw),some (.int pl),some (.tup [.int t.a,.int t.b,.int t.k,.int t.o])] S1=.ok true S1:=by
   unfold cChain3
   simp [bnd_ev,a0,ab,bp,ret_ev]
  by_cases hk0:0≤t.k
  ·by_cases hk:t.k<sw
   ·exact ⟨b3,by simp [b_is_contact,Ct.d,e2,q4,h1,a1,hch,hk0,hk,b1],by rw [hb]; exact ⟨fun z=>⟨a0,ab,bp,hk0,hk,z⟩,fun z=>z.2.2.2.2.2⟩⟩
   ·exact ⟨false,by simp [b_is_contact,Ct.d,e2,q4,h1,a1,hch,hk0,hk],⟨fun z=>(by cases z),fun z=>absurd z.2.2.2.2.1 hk⟩⟩
  ·exact ⟨false,by simp [b_is_contact,Ct.d,e2,q4,h1,a1,hch,hk0],⟨fun z=>(by cases z),fun z=>absurd z.2.2.2.1 hk0⟩⟩
 ·have hch:cChain3 (oCmp fun i j=>decide (i≤j)) oLt oLt (cCon (.int 0)) (cBin oIx (cVar 2) (cCon (.int 0))) (cBin oIx (cVar 2) (cCon (.int 1))) (cVar 1) [some (.int sw),some (.int pl),some (.tup [.int t.a,.int t.b,.int t.k,.int t.o])] S1=.ok false S1:=by
   unfold cChain3
   by_cases a0:0≤t.a
   ·by_cases ab:t.a<t.b
    ·have bp:¬ t.b<pl:=fun z=>ha ⟨a0,ab,z⟩
     simp [bnd_ev,a0,ab,bp,ret_ev]
    ·simp [bnd_ev,a0,ab,ret_ev]
   ·simp [bnd_ev,a0,ret_ev]
  exact ⟨false,by simp [b_is_contact,Ct.d,e2,q4,h1,a1,hch],⟨fun z=>(by cases z),fun z=>absurd ⟨z.1,z.2.1,z.2.2.1⟩ ha⟩⟩
theorem contact_any (h:Hs_is_contact cl) (hb:Hs_is_bit cl) (hw:Hs_is_whole cl) (n:Nat) (sw pl:Int) (c:Ct) (S:Store):BlR (cl (n+3) "is_contact" [.int sw,.int pl,c.d] S) (c.ok sw pl) S:=by
 have e2:loopC [] .one (fun _=>ret true) (is_contact_e1 (cl (n+2))) [none] ([c.a,c.b,c.k,c.o].map D.int) S=.ok ([c.a,c.b,c.k,c.o].map fun _=>D.bl true) S:=by
  refine comp_pureM D.int (okW_nil _) _ _ fun y hy=>⟨_,rfl,?_⟩
  have:=is_whole_spec hw (n+1) (scal_int y) S
  simp [is_contact_e1,this,isIntD]
 obtain ⟨S1,h1⟩:∃ S1,S++[O.lst [.bl true,.bl true,.bl true,.bl true]]=S1:=⟨_,rfl⟩
 have a1:fBools (fun bs=>bs.all id) [.lst S.length] (S++[.lst [.bl true,.bl true,.bl true,.bl true]])=.ok (.bl true) (S++[.lst [.bl true,.bl true,.bl true,.bl true]]):=fAll_ev (l:=[true,true,true,true]) (lstAt_new S _) _
 rw [h1] at a1
 obtain ⟨b,r,hbb⟩:=ict_run (cl (n+2)) (sw:=sw) (pl:=pl) (t:=c) e2 h1 a1 (is_bit_spec hb hw n (scal_int c.o) S1) (by simp [isBitD]; omega)
 refine ⟨b,S1,?_,hbb,h1▸ex_app _ _⟩
 rw [show n+3=(n+2)+1 from rfl,h]
 exact run_rt rfl r
theorem inn_1 (c:CLL) {nd sd:D}{R:List D}{sw pl:Int}{S:Store} (hd:nd=.tup [.int sw,.int pl,.tup R]) (w1:∀ S,c "is_whole" [.int sw] S=.ok (.bl true) S) (w2:∀ S,c "is_whole" [.int pl] S=.ok (.bl true) S) {rl:Int} (fl:∀ S,fLen [.tup R] S=.ok (.int rl) S) (h:¬ (1≤sw∧sw≤4∧2≤pl∧pl≤7∧rl≤16)):b_is_net c [some nd,none,none,none] S=.rt (.bl false) S:=by
 subst hd
 have i3:=inst_tup [.int sw,.int pl,.tup R] S
 have iR:=inst_tup R S
 by_cases s1:1≤sw
 ·by_cases s2:sw≤4
  ·by_cases p1:2≤pl
   ·by_cases p2:pl≤7
    ·have r1:(16:Int)<rl:=by omega
     have f3:fLen [.tup [.int sw,.int pl,.tup R]] S=.ok (.int 3) S:=rfl
     simp [b_is_net,i3,iR,w1,w2,s1,s2,p1,p2,r1,fl,f3,-fLen_tup]
    ·simp [b_is_net,i3,iR,w1,w2,s1,s2,p1,p2]
   ·simp [b_is_net,i3,iR,w1,w2,s1,s2,p1]
  ·simp [b_is_net,i3,iR,w1,s1,s2]
 ·simp [b_is_net,i3,iR,w1,s1]
theorem inn_2 (c:CLL) {nd:D}{R Z:List D}{sw pl:Int}{b:Bool}{S S2 S3:Store} (hd:nd=.tup [.int sw,.int pl,.tup R]) (w1:∀ S,c "is_whole" [.int sw] S=.ok (.bl true) S) (w2:∀ S,c "is_whole" [.int pl] S=.ok (.bl true) S) {rl:Int} (fl:∀ S,fLen [.tup R] S=.ok (.int rl) S) (s1:1≤sw) (s2:sw≤4) (p1:2≤pl) (p2:pl≤7) (r1:¬ (16:Int)<rl) (hl:R.length<lim)
  (e2:loopC [] .one (fun _=>ret true) (is_net_e1 c) [none,some (.int sw),some (.int pl)] R S=.ok Z S2) (h3:S2++[O.lst Z]=S3) (a1:fBools (fun bs=>bs.all id) [.lst S2.length] S3=.ok (.bl b) S3):b_is_net c [some nd,none,none,none] S=.rt (.bl b) S3:=by
 subst hd
 have i3:=inst_tup [.int sw,.int pl,.tup R] S
 have iR:=inst_tup R S
 have f3:fLen [.tup [.int sw,.int pl,.tup R]] S=.ok (.int 3) S:=rfl
 simp [b_is_net,i3,iR,w1,w2,s1,s2,p1,p2,r1,fl,f3,hl,e2,h3,a1,-fLen_tup]
theorem cs_go (h:Hs_is_contact cl) (hb:Hs_is_bit cl) (hw:Hs_is_whole cl) (n:Nat) (sw pl:Int):∀ (cs:List Ct) (S:Store),∃ (bs:List Bool) (S':Store),loopC [] .one (fun _=>ret true) (is_net_e1 (cl (n+3))) [none,some (.int sw),some (.int pl)] (cs.map Ct.d) S=.ok (bs.map D.bl) S'∧Ex S S'∧(bs.all id=true↔∀ c∈cs,c.ok sw pl)
 | [],S=>⟨[],S,by rw [List.map_nil]; unfold loopC; rw [if_pos (okW_nil S)]; rfl,Kp.refl _ _,by simp⟩
 | c::cs,S=>by
  obtain ⟨b,S1,e1,hb1,x1⟩:=contact_any h hb hw n sw pl c S
  obtain ⟨bs,S2,e2,x2,hb2⟩:=cs_go h hb hw n sw pl cs S1
  refine ⟨b::bs,S2,?_,x1.trans x2,?_⟩
  ·have e4:is_net_e1 (cl (n+3)) [some c.d,some (.int sw),some (.int pl)] S=.ok (.bl b) S1:=by simp [is_net_e1,e1]
   rw [List.map_cons]
   unfold loopC
   rw [if_pos (okW_nil S)]
   have e0:bindT .one c.d [none,some (.int sw),some (.int pl)]=some [some c.d,some (.int sw),some (.int pl)]:=rfl
   rw [e0]
   dsimp only
   rw [bnd_ev,ret_ev,rbnd_ok,if_pos rfl,bnd_ev,e4,rbnd_ok,bnd_ev,e2,rbnd_ok]
   rfl
  ·rw [List.all_cons,Bool.and_eq_true,hb2]
   simp only [id,hb1,List.mem_cons,forall_eq_or_imp]
theorem net_any (h:Hs_is_net cl) (hc:Hs_is_contact cl) (hb:Hs_is_bit cl) (hw:Hs_is_whole cl) (n:Nat) {N:Net} (hl:N.cs.length≤5000) (S:Store):BlR (cl (n+4) "is_net" [N.d] S) N.g S:=by
 have w1:∀ S,cl (n+3) "is_whole" [.int N.sw] S=.ok (.bl true) S:=fun S=>by have:=is_whole_spec hw (n+2) (scal_int N.sw) S; simpa [isIntD] using this
 have w2:∀ S,cl (n+3) "is_whole" [.int N.pl] S=.ok (.bl true) S:=fun S=>by have:=is_whole_spec hw (n+2) (scal_int N.pl) S; simpa [isIntD] using this
 have fl:∀ S,fLen [.tup (N.cs.map Ct.d)] S=.ok (.int (N.cs.length:Int)) S:=fun S=>by show R.ok (D.int ((N.cs.map Ct.d).length:Nat)) S=_; rw [List.length_map]
 rw [show n+4=(n+3)+1 from rfl,h]
 by_cases hh:1≤N.sw∧N.sw≤4∧2≤N.pl∧N.pl≤7∧(N.cs.length:Int)≤16
 ·obtain ⟨s1,s2,p1,p2,r1⟩:=hh
  obtain ⟨bs,S2,e2,x2,hbs⟩:=cs_go hc hb hw n N.sw N.pl N.cs S
  obtain ⟨S3,h3⟩:∃ S3,S2++[O.lst (bs.map D.bl)]=S3:=⟨_,rfl⟩
  have a1:=fAll_ev (lstAt_new S2 (bs.map D.bl)) (fun bs=>bs.all id)
  rw [h3] at a1
  refine ⟨bs.all id,S3,run_rt rfl (inn_2 (cl (n+3)) rfl w1 w2 fl s1 s2 p1 p2 (by omega) (by rw [List.length_map,lim_eq]; omega) e2 h3 a1),?_,x2.trans (h3▸ex_app _ _)⟩
  rw [hbs]
  exact ⟨fun z=>⟨s1,s2,p1,p2,r1,z⟩,fun z=>z.c2⟩
 ·refine ⟨false,S,run_rt rfl (inn_1 (cl (n+3)) (sd:=.non) rfl w1 w2 fl hh),⟨fun z=>(by cases z),fun z=>absurd ⟨z.s1,z.s2,z.p1,z.p2,z.c1⟩ hh⟩,Kp.refl _ _⟩
noncomputable def FG:Str:=Str.ofString "0123456789"
theorem figure_any (h:Hs_figure cl) (n:Nat) (z:Str) (S:Store):cl (n+1) "figure" [.str z] S=.ok (.int (Txt.find FG z)) S:=by
 rw [h]
 refine run_rt rfl ?_
 have e:mFind (.str (Str.ofString "0123456789")) [.str z] S=.ok (.int (Txt.find FG z)) S:=rfl
 simp [b_figure,startE,e,tyOk]
noncomputable def ch (w:Str) (i:Nat):Str:=⟨#[w.cps.toList.getD i 0]⟩
theorem ch_ix {w:Str}{i:Nat} (hi:i<w.length) (hl:w.length≤5000) (S:Store):oIx (.str w) (.int (i:Nat)) S=.ok (.str (ch w i)) S:=by
 have e:atI w.cps.toList (i:Nat)=some (w.cps.toList.getD i 0):=atI_nat (by
  rw [List.getD_eq_getElem?_getD,List.getElem?_eq_getElem (by rw [cps_len]; exact hi)]; rfl)
 show (match atI w.cps.toList (i:Nat) with | some c=>if w.length≤lim then R.ok (D.str ⟨#[c]⟩) S else .bad | none=>.bad)=_
 rw [e]
 dsimp only
 rw [if_pos (by rw [lim_eq]; omega)]
 rfl
noncomputable def rdC (w:Str):Ct:=⟨Txt.find FG (ch w 0),Txt.find FG (ch w 2),Txt.find FG (ch w 4),if decide (ch w 5=Str.ofString "+")=true then 1 else 0⟩
theorem contact_read_any (h:Hs_contact_read cl) (hf:Hs_figure cl) (n:Nat) {w:Str} (l6:w.length=6) (S:Store):cl (n+2) "contact_read" [.str w] S=.ok (rdC w).d S:=by
 have q:oEq (.str (ch w 5)) (.str (Str.ofString "+")) S=.ok (.bl (decide (ch w 5=Str.ofString "+"))) S:=rfl
 rw [show n+2=(n+1)+1 from rfl,h]
 have r:=cr_run (cl (n+1)) (wd:=.str w) (ch_ix (i:=0) (by omega) (by omega) S) (ch_ix (i:=2) (by omega) (by omega) S) (ch_ix (i:=4) (by omega) (by omega) S) (ch_ix (i:=5) (by omega) (by omega) S) (figure_any hf n _ S) (figure_any hf n _ S) (figure_any hf n _ S) q
 exact run_rt rfl r
theorem fLen_s {z:Str} (h:z.length≤5000) (S:Store):fLen [.str z] S=.ok (.int (z.length:Int)) S:=by
 show (if z.length≤lim then R.ok (D.int (z.length:Int)) S else .bad)=_
 rw [if_pos (by rw [lim_eq]; omega)]
noncomputable def hasL:List Str→Bool
 | w0::w1::r=>decide (w0.length=1)&&(decide (w1.length=2)&&r.all fun w=>decide (w.length=6))
 | _=>false
theorem hl_no (c:CLL) {k:Nat}{len:Int}{S:Store} (f:fLen [.lst k] S=.ok (.int len) S) (h2:len<2):b_has_lengths_of_net c [some (.lst k)] S=.rt (.bl false) S:=by
 simp [b_has_lengths_of_net,f,h2]
theorem hl_no0 (c:CLL) {k:Nat}{len l0:Int}{z0:D}{S:Store} (f:fLen [.lst k] S=.ok (.int len) S) (h2:¬ len<2) (i0:oIx (.lst k) (.int 0) S=.ok z0 S) (f0:fLen [z0] S=.ok (.int l0) S) (h0:¬ l0=1):b_has_lengths_of_net c [some (.lst k)] S=.rt (.bl false) S:=by
 simp [b_has_lengths_of_net,f,h2,i0,f0,h0]
theorem hl_no1 (c:CLL) {k:Nat}{len l1:Int}{z0 z1:D}{S:Store} (f:fLen [.lst k] S=.ok (.int len) S) (h2:¬ len<2) (i0:oIx (.lst k) (.int 0) S=.ok z0 S) (f0:fLen [z0] S=.ok (.int 1) S) (i1:oIx (.lst k) (.int 1) S=.ok z1 S) (f1:fLen [z1] S=.ok (.int l1) S) (h1:¬ l1=2):b_has_lengths_of_net c [some (.lst k)] S=.rt (.bl false) S:=by
 simp [b_has_lengths_of_net,f,h2,i0,i1,f0,f1,h1]
theorem hl_any (c:CLL) {k:Nat}{len:Int}{z0 z1:D}{X ws:List D}{bb:Bool}{S S1:Store} (f:fLen [.lst k] S=.ok (.int len) S) (h2:¬ len<2) (i0:oIx (.lst k) (.int 0) S=.ok z0 S) (i1:oIx (.lst k) (.int 1) S=.ok z1 S) (f0:fLen [z0] S=.ok (.int 1) S) (f1:fLen [z1] S=.ok (.int 2) S) (sl:oSl (.lst k) (some 2) none S=.ok (.lst S.length) S1) (l1:lstAt S1 S.length=some X) (lX:X.length<lim)
  (c1:loopC [(S.length,X)] .one (fun _=>ret true) (has_lengths_of_net_e1 c) [none] X S1=.ok ws S1) (b:fBools (fun bs=>bs.all id) [.lst S1.length] (S1++[O.lst ws])=.ok (.bl bb) (S1++[O.lst ws])) :
  b_has_lengths_of_net c [some (.lst k)] S=.rt (.bl bb) (S1++[O.lst ws]):=by
 have s0:∀ ρ:Env1,stE 1 [] ρ=[none]:=fun _=>rfl
 simp [b_has_lengths_of_net,f,h2,i0,i1,f0,f1,sl,l1,s0,lX,c1,b]
theorem bools_map {α:Type} (f:α→Bool):∀ l:List α,boolsOf (l.map fun d=>D.bl (f d))=some (l.map f)
 | []=>rfl
 | a::l=>by
  show (boolsOf (l.map fun d=>D.bl (f d))).map (f a::·)=_
  rw [bools_map f l]; rfl
theorem fBools_m {α:Type}{S:Store}{n:Nat} (g:List Bool→Bool) (f:α→Bool) (l:List α) (h:lstAt S n=some (l.map fun d=>D.bl (f d))):fBools g [.lst n] S=.ok (.bl (g (l.map f))) S:=by
 unfold fBools
 dsimp only
 rw [h]
 show (match boolsOf (l.map fun d=>D.bl (f d)) with | some bs=>R.ok (D.bl (g bs)) S | none=>.bad)=_
 rw [bools_map]
theorem lengths_any (h:Hs_has_lengths_of_net cl) (n:Nat) {ws:List Str} (hw:∀ w∈ws,w.length≤5000) (hl:ws.length≤5001) {S:Store}{k:Nat} (l:lstAt S k=some (ws.map D.str)):Spc (cl (n+1) "has_lengths_of_net" [.lst k] S) (.bl (hasL ws)) S:=by
 have f:=fLen_lst l
 rw [List.length_map] at f
 rw [h]
 match ws,hw,hl,l,f with
 | [],_,_,l,f=>exact ⟨S,run_rt rfl (hl_no _ f (by decide)),Kp.refl _ _⟩
 | [w],_,_,l,f=>exact ⟨S,run_rt rfl (hl_no _ f (by simp)),Kp.refl _ _⟩
 | w0::w1::r,hw,hl,l,f =>
  have h2:¬ (((w0::w1::r).length:Nat):Int)<2:=by simp only [List.length_cons]; omega
  have l':lstAt S k=some (.str w0::.str w1::r.map D.str):=l
  have f0:=fLen_s (z:=w0) (hw w0 (by simp)) S
  have f1:=fLen_s (z:=w1) (hw w1 (by simp)) S
  unfold hasL
  dsimp only
  by_cases h0:w0.length=1
  ·rw [h0] at f0
   by_cases h1:w1.length=2
   ·rw [h1] at f1
    have sl:=oSl_lst l' (some 2) none
    rw [cut2] at sl
    obtain ⟨S1,hS1⟩:∃ S1,S++[O.lst (r.map D.str)]=S1:=⟨_,rfl⟩
    rw [hS1] at sl
    have l1:lstAt S1 S.length=some (r.map D.str):=by rw [← hS1]; exact lstAt_new _ _
    have c1:loopC [(S.length,r.map D.str)] .one (fun _=>ret true) (has_lengths_of_net_e1 (cl n)) [none] (r.map D.str) S1=.ok (r.map fun w=>D.bl (decide (w.length=6))) S1:=by
     refine comp_pureM D.str (okW_one l1) (fun w=>D.bl (decide (w.length=6))) r fun w hwr=>⟨_,rfl,?_⟩
     have:=fLen_s (z:=w) (hw w (by simp [hwr])) S1
     have e:decide ((w.length:Int)=6)=decide (w.length=6):=decide_eq_decide.mpr (by omega)
     generalize hz:(w.length:Int)=zl at *
     simp [has_lengths_of_net_e1,this,e]
    have b:=fBools_m (S:=S1++[O.lst (r.map fun w=>D.bl (decide (w.length=6)))]) (n:=S1.length) (fun bs=>bs.all id) (fun w:Str=>decide (w.length=6)) r (lstAt_new S1 _)
    rw [List.all_map] at b
    rw [decide_eq_true h0,decide_eq_true h1,Bool.true_and,Bool.true_and]
    refine ⟨S1++[O.lst (r.map fun w=>D.bl (decide (w.length=6)))],?_,(hS1▸ex_app _ _:Ex S S1).trans (ex_app _ _)⟩
    exact run_rt rfl (hl_any _ f h2 (ix_01 l').1 (ix_01 l').2 f0 f1 sl l1 (by rw [List.length_map,lim_eq]; simp only [List.length_cons] at hl; omega) c1 b)
   ·rw [decide_eq_false h1,Bool.false_and,Bool.and_false]
    exact ⟨S,run_rt rfl (hl_no1 _ f h2 (ix_01 l').1 f0 (ix_01 l').2 f1 (by omega)),Kp.refl _ _⟩
  ·rw [decide_eq_false h0,Bool.false_and]
   exact ⟨S,run_rt rfl (hl_no0 _ f h2 (ix_01 l').1 f0 (by omega)),Kp.refl _ _⟩
theorem nr_er0 (c:CLL) {d:D}{S:Store} (t:fInst [d,.ty "str"] S=.ok (.bl false) S):b_net_read c [some d,none,none] S=.er "BadNote" S:=by
 simp [b_net_read,t]
theorem nr_er1 (c:CLL) {td:Str}{k:Nat}{S S1 S2:Store} (t:fInst [.str td,.ty "str"] S=.ok (.bl true) S) (ty:tyOk "str" (.str td) S=true) (s:mSplit (.str td) [.str (Str.ofString " ")] S=.ok (.lst k) S1) (e1:c "has_lengths_of_net" [.lst k] S1=.ok (.bl false) S2):b_net_read c [some (.str td),none,none] S=.er "BadNote" S2:=by
 simp [b_net_read,t,ty,s,e1]
theorem nr_er2 (c:CLL) {td:Str}{k:Nat}{z0 z1 z2:Str}{sw pl:Int}{X ws:List D}{S S1 S2 S3 S4 S5:Store} (t:fInst [.str td,.ty "str"] S=.ok (.bl true) S) (ty:tyOk "str" (.str td) S=true) (s:mSplit (.str td) [.str (Str.ofString " ")] S=.ok (.lst k) S1) (e1:c "has_lengths_of_net" [.lst k] S1=.ok (.bl true) S2) (i0:oIx (.lst k) (.int 0) S2=.ok (.str z0) S2) (f0:c "figure" [.str z0] S2=.ok (.int sw) S2) (i1:oIx (.lst k) (.int 1) S2=.ok (.str z1) S2) (i2:oIx (.str z1) (.int 0) S2=.ok (.str z2) S2) (f1:c "figure" [.str z2] S2=.ok (.int pl) S2)
  (sl:oSl (.lst k) (some 2) none S2=.ok (.lst S2.length) S3) (l3:lstAt S3 S2.length=some X) (lX:X.length<lim) (c1:loopC [(S2.length,X)] .one (fun _=>ret true) (net_read_e1 c) [none] X S3=.ok ws S3) (h4:S3++[O.lst ws]=S4) (tp:fTuple [.lst S3.length] S4=.ok (.tup ws) S4) (e5:c "is_net" [.tup [.int sw,.int pl,.tup ws]] S4=.ok (.bl false) S5) :
  b_net_read c [some (.str td),none,none] S=.er "BadNote" S5:=by
 have s0:∀ ρ:Env1,stE 1 [] ρ=[none]:=fun _=>rfl
 simp [b_net_read,t,ty,s,e1,i0,f0,i1,i2,f1,sl,l3,lX,s0,c1,h4,tp,e5]
theorem nr_er3 (c:CLL) {td:Str}{k:Nat}{z0 z1 z2:Str}{sw pl:Int}{tx:Str}{X ws:List D}{S S1 S2 S3 S4 S5 S6:Store} (t:fInst [.str td,.ty "str"] S=.ok (.bl true) S) (ty:tyOk "str" (.str td) S=true) (s:mSplit (.str td) [.str (Str.ofString " ")] S=.ok (.lst k) S1) (e1:c "has_lengths_of_net" [.lst k] S1=.ok (.bl true) S2) (i0:oIx (.lst k) (.int 0) S2=.ok (.str z0) S2) (f0:c "figure" [.str z0] S2=.ok (.int sw) S2) (i1:oIx (.lst k) (.int 1) S2=.ok (.str z1) S2) (i2:oIx (.str z1) (.int 0) S2=.ok (.str z2) S2) (f1:c "figure" [.str z2] S2=.ok (.int pl) S2)
  (sl:oSl (.lst k) (some 2) none S2=.ok (.lst S2.length) S3) (l3:lstAt S3 S2.length=some X) (lX:X.length<lim) (c1:loopC [(S2.length,X)] .one (fun _=>ret true) (net_read_e1 c) [none] X S3=.ok ws S3) (h4:S3++[O.lst ws]=S4) (tp:fTuple [.lst S3.length] S4=.ok (.tup ws) S4) (e5:c "is_net" [.tup [.int sw,.int pl,.tup ws]] S4=.ok (.bl true) S5) (e6:c "net_text" [.tup [.int sw,.int pl,.tup ws]] S5=.ok (.str tx) S6) (q:oNe (.str tx) (.str td) S6=.ok (.bl true) S6) :
  b_net_read c [some (.str td),none,none] S=.er "BadNote" S6:=by
 have s0:∀ ρ:Env1,stE 1 [] ρ=[none]:=fun _=>rfl
 simp [b_net_read,t,ty,s,e1,i0,f0,i1,i2,f1,sl,l3,lX,s0,c1,h4,tp,e5,e6,q]
theorem read_odd (H:HRd cl) (n:Nat) {d:D}{S:Store} (t:fInst [d,.ty "str"] S=.ok (.bl false) S):cl (n+5) "net_read" [d] S=.er "BadNote" S:=by
 rw [show n+5=(n+4)+1 from rfl,H.nr]
 exact run_er rfl (nr_er0 _ t)
theorem hasL_inv {ws:List Str} (h:hasL ws=true):∃ w0 w1 r,ws=w0::w1::r∧w0.length=1∧w1.length=2∧∀ w∈r,w.length=6:=by
 match ws,h with
 | w0::w1::r,h =>
  simp only [hasL,Bool.and_eq_true,decide_eq_true_eq,List.all_eq_true] at h
  exact ⟨w0,w1,r,rfl,h.1,h.2.1,h.2.2⟩
theorem read_no (H:HRd cl) (n:Nat) {z:Str} (hz:z.length≤5000) (hn:¬ IsN z) (S:Store):∃ S1,cl (n+5) "net_read" [.str z] S=.er "BadNote" S1∧Ex S S1:=by
 rw [show n+5=(n+4)+1 from rfl,H.nr]
 have s:=split_any hz S
 obtain ⟨S1,h1⟩:∃ S1,S++[O.lst ((sp z).map D.str)]=S1:=⟨_,rfl⟩
 rw [h1] at s
 have x1:Ex S S1:=h1▸ex_app _ _
 have l1:lstAt S1 S.length=some ((sp z).map D.str):=by rw [← h1]; exact lstAt_new _ _
 obtain ⟨S2,e1,x2⟩:=lengths_any H.hl (n+3) (ws:=sp z) (fun w hw=>by have:=sp_in hw; omega) (by have:=sp_len z; omega) l1
 cases hL:hasL (sp z) with
 | false =>
  rw [hL] at e1
  exact ⟨S2,run_er rfl (nr_er1 _ rfl rfl s e1),x1.trans x2⟩
 | true =>
  rw [hL] at e1
  obtain ⟨w0,w1,r,hws,hw0,hw1,hr⟩:=hasL_inv hL
  have rl:r.length≤5001:=by have:=sp_len z; rw [hws] at this; simp only [List.length_cons] at this; omega
  have l2:lstAt S2 S.length=some (.str w0::.str w1::r.map D.str):=by have:=x2.lst l1 fun z=>z; rw [hws] at this; exact this
  have sl:=oSl_lst l2 (some 2) none
  rw [cut2] at sl
  obtain ⟨S3,h3⟩:∃ S3,S2++[O.lst (r.map D.str)]=S3:=⟨_,rfl⟩
  rw [h3] at sl
  have l3:lstAt S3 S2.length=some (r.map D.str):=by rw [← h3]; exact lstAt_new _ _
  have c1:loopC [(S2.length,r.map D.str)] .one (fun _=>ret true) (net_read_e1 (cl (n+4))) [none] (r.map D.str) S3=.ok ((r.map rdC).map Ct.d) S3:=by
   rw [List.map_map]
   exact comp_pureM D.str (okW_one l3) _ r fun w hw=>⟨_,rfl,by
    have e:=contact_read_any H.cr H.fi (n+2) (hr w hw) S3
    simp [net_read_e1,e]⟩
  obtain ⟨S4,h4⟩:∃ S4,S3++[O.lst ((r.map rdC).map Ct.d)]=S4:=⟨_,rfl⟩
  have tp:fTuple [.lst S3.length] S4=.ok (.tup ((r.map rdC).map Ct.d)) S4:=by rw [← h4]; exact fTuple_lst (lstAt_new _ _)
  have x4:Ex S S4:=(x1.trans x2).trans ((h3▸ex_app _ _:Ex S2 S3).trans (h4▸ex_app _ _:Ex S3 S4))
  obtain ⟨b,S5,e5,hb,x5⟩:=net_any H.ins H.ic H.ib H.iw n (N:=⟨Txt.find FG w0,Txt.find FG (ch w1 0),r.map rdC⟩) (by show (r.map rdC).length≤5000; rw [List.length_map]; have:=sp_len z; rw [hws] at this; simp only [List.length_cons] at this; omega) S4
  have i1:=ch_ix (w:=w1) (i:=0) (by omega) (by omega) S2
  have lX:(r.map D.str).length<lim:=by rw [List.length_map,lim_eq]; omega
  cases b with
  | false=>exact ⟨S5,run_er rfl (nr_er2 _ rfl rfl s e1 (ix_01 l2).1 (figure_any H.fi (n+3) w0 S2) (ix_01 l2).2 i1 (figure_any H.fi (n+3) _ S2) sl l3 lX c1 h4 tp e5),x4.trans x5⟩
  | true =>
   have ok:=hb.mp rfl
   obtain ⟨S6,e6,x6⟩:=net_text_spec H.nt H.ct (n+2) ok S5
   have q:oNe (.str (txN ⟨Txt.find FG w0,Txt.find FG (ch w1 0),r.map rdC⟩)) (.str z) S6=.ok (.bl true) S6:=by
    show R.ok (D.bl (!decide (txN ⟨Txt.find FG w0,Txt.find FG (ch w1 0),r.map rdC⟩=z))) S6=_
    rw [decide_eq_false fun e=>hn ⟨_,ok,e.symm⟩]; rfl
   exact ⟨S6,run_er rfl (nr_er3 _ rfl rfl s e1 (ix_01 l2).1 (figure_any H.fi (n+3) w0 S2) (ix_01 l2).2 i1 (figure_any H.fi (n+3) _ S2) sl l3 lX c1 h4 tp e5 e6 q),(x4.trans x5).trans x6⟩
theorem val_put {κ:Type} [DecidableEq κ] (kvs:List (κ × D)) (k k':κ) (v:D):valD (putD kvs k v) k'=if k'=k then some v else valD kvs k':=by
 unfold putD
 split
 ·rename_i h
  unfold valD
  induction kvs with
  | nil=>simp at h
  | cons p r ih =>
   rw [List.map_cons,List.find?_cons,List.find?_cons]
   by_cases hp:p.1=k
   ·rw [if_pos hp]
    by_cases hk:k'=k
    ·subst hk; simp [hp]
    ·have:¬ p.1=k':=fun e=>hk (by rw [← e,hp])
     simp only [decide_eq_false this,if_neg hk]
     by_cases hr:(r.any fun kv=>decide (kv.1=k))=true
     ·have:=ih hr; rw [if_neg hk] at this; exact this
     ·have:r.map (fun kv=>if kv.1=k then (kv.1,v) else kv)=r:=by
       have:∀ x∈r,(fun kv:κ × D=>if kv.1=k then (kv.1,v) else kv) x=x:=fun x hx=>by
        have:¬ x.1=k:=fun e=>hr (List.any_eq_true.mpr ⟨x,hx,decide_eq_true e⟩)
        simp [this]
       conv=>rhs; rw [← List.map_id r]
       exact List.map_congr_left this
      rw [this]
   ·rw [if_neg hp]
    have hr:(r.any fun kv=>decide (kv.1=k))=true:=by
     rw [List.any_cons,decide_eq_false hp,Bool.false_or] at h; exact h
    by_cases hq:p.1=k'
    ·have:¬ k'=k:=fun e=>hp (by rw [hq,e])
     simp [hq,this]
    ·simp only [decide_eq_false hq]
     exact ih hr
 ·rename_i h
  unfold valD
  rw [List.find?_append]
  by_cases hk:k'=k
  ·subst hk
   have:kvs.find? (fun kv=>decide (kv.1=k'))=none:=List.find?_eq_none.mpr fun x hx z=>h (List.any_eq_true.mpr ⟨x,hx,z⟩)
   rw [this]; simp
  ·have hkk:¬ k=k':=fun e=>hk e.symm
   cases hf:kvs.find? fun kv=>decide (kv.1=k') with
   | none=>simp [hkk,hk]
   | some p=>simp [hk]
theorem put_len {κ:Type} [DecidableEq κ] (kvs:List (κ × D)) (k:κ) (v:D):(putD kvs k v).length≤kvs.length+1:=by
 unfold putD; split <;> simp
theorem wd_inj {c c':Ct} (h:Cg c) (h':Cg c') (e:wdC c=wdC c'):c=c':=by
 unfold wdC at e
 have e:=congrArg (fun s:Str=>s.cps.toList) e
 simp only [List.cons.injEq] at e
 obtain ⟨e1,_,e2,_,e3,e4,_⟩:=e
 have:=h.a; have:=h.b; have:=h.k; have:=h'.a; have:=h'.b; have:=h'.k
 have eo:c.o=c'.o:=by
  rcases h.o with o | o <;> rcases h'.o with o' | o' <;> rw [o,o'] at e4 ⊢ <;> simp at e4
 cases c; cases c'
 dsimp only at *
 congr 1 <;> omega
structure KD (S:Store) (m:Nat) (Q:Ct→Prop) (n:Nat):Prop where
 g:∀ c,Q c→Cg c
 d:∃ kvs:List (Key × D),S[m]?=some (.dk kvs)∧kvs.length≤n∧∀ w d,valD kvs (.inr w)=some d↔∃ c,Q c∧wdC c=w∧d=c.d
theorem KD.congr {S:Store}{m n:Nat}{Q Q':Ct→Prop} (h:KD S m Q n) (e:∀ c,Q c↔Q' c):KD S m Q' n:=by
 have:Q=Q':=funext fun c=>propext (e c)
 rw [← this]; exact h
theorem KD.up {S:Store}{m n n':Nat}{Q:Ct→Prop} (h:KD S m Q n) (e:n≤n'):KD S m Q n':=by
 obtain ⟨kvs,a,b,c⟩:=h.d
 exact ⟨h.g,kvs,a,by omega,c⟩
theorem KD.ex {S S':Store}{m n:Nat}{Q:Ct→Prop} (h:KD S m Q n) (x:Ex S S'):KD S' m Q n:=by
 obtain ⟨kvs,a,b,c⟩:=h.d
 exact ⟨h.g,kvs,x.at a fun z=>z,b,c⟩
theorem KD.put {S:Store}{m n:Nat}{Q:Ct→Prop} (h:KD S m Q n) (hn:n≤5000) {c:Ct} (gc:Cg c):∃ S',oSet (.dct m) (.str (wdC c)) c.d S=some S'∧Kp (·=m) S S'∧KD S' m (fun c'=>Q c'∨c'=c) (n+1):=by
 obtain ⟨kvs,a,b,v⟩:=h.d
 have lt:=(List.getElem?_eq_some_iff.mp a).1
 refine ⟨S.set m (.dk (putD kvs (.inr (wdC c)) c.d)),?_,kp_set _ _,fun c' hc'=>?_,putD kvs (.inr (wdC c)) c.d,List.getElem?_set_self lt,by have:=put_len kvs (Sum.inr (wdC c):Key) c.d; omega,fun w d=>?_⟩
 ·unfold oSet
  dsimp only
  rw [a]
  show (if kvs.length<lim then _ else _)=_
  rw [if_pos (by rw [lim_eq]; omega)]
 ·rcases hc' with q | rfl
  ·exact h.g c' q
  ·exact gc
 ·rw [val_put]
  by_cases hw:w=wdC c
  ·subst hw
   rw [if_pos rfl]
   constructor
   ·intro e; cases e; exact ⟨c,.inr rfl,rfl,rfl⟩
   ·rintro ⟨c',hc',e,rfl⟩
    have:c'=c:=by
     rcases hc' with q | q
     ·exact wd_inj (h.g c' q) gc e
     ·exact q
    rw [this]
  ·rw [if_neg (fun e=>hw (Sum.inr.inj e)),v]
   constructor
   ·rintro ⟨c',q,e⟩; exact ⟨c',.inl q,e⟩
   ·rintro ⟨c',q | rfl,e,e2⟩
    ·exact ⟨c',q,e,e2⟩
    ·exact absurd e.symm hw
def Bf (sw pl a b k o:Int) (c:Ct):Prop:=c.ok sw pl∧(c.a<a∨(c.a=a∧(c.b<b∨(c.b=b∧(c.k<k∨(c.k=k∧c.o<o))))))
theorem bf_put {sw pl a b k o:Int} (hc:(⟨a,b,k,o⟩:Ct).ok sw pl) (c:Ct):(Bf sw pl a b k o c∨c=⟨a,b,k,o⟩)↔Bf sw pl a b k (o+1) c:=by
 unfold Bf
 constructor
 ·rintro (⟨h,q⟩ | rfl)
  ·exact ⟨h,by omega⟩
  ·exact ⟨hc,by dsimp only; omega⟩
 ·rintro ⟨h,q⟩
  by_cases e:c=⟨a,b,k,o⟩
  ·exact .inr e
  ·refine .inl ⟨h,?_⟩
   have:¬ (c.a=a∧c.b=b∧c.k=k∧c.o=o):=fun z=>e (by cases c; simp only at z; obtain ⟨rfl,rfl,rfl,rfl⟩:=z; rfl)
   omega
theorem bf_k {sw pl a b k:Int} (c:Ct):Bf sw pl a b k 2 c↔Bf sw pl a b (k+1) 0 c:=by
 unfold Bf Ct.ok
 constructor <;> rintro ⟨h,q⟩ <;> exact ⟨h,by omega⟩
theorem bf_b {sw pl a b:Int} (c:Ct):Bf sw pl a b sw 0 c↔Bf sw pl a (b+1) 0 0 c:=by
 unfold Bf Ct.ok
 constructor <;> rintro ⟨h,q⟩ <;> exact ⟨h,by omega⟩
theorem bf_a {sw pl a b:Int} (hb:pl≤b) (c:Ct):Bf sw pl a b 0 0 c↔Bf sw pl (a+1) (a+1+1) 0 0 c:=by
 unfold Bf Ct.ok
 constructor <;> rintro ⟨h,q⟩ <;> exact ⟨h,by omega⟩
theorem ci_l4 (c:CLL) {v0 v1 v7:Option D}{m:Nat}{a b k o:Int}{s1 s2 s3 sg t1 t2 t3 t4 w:Str}{S S1 S2:Store} (f1:∀ S,fStr [.int a] S=.ok (.str s1) S) (f2:∀ S,fStr [.int b] S=.ok (.str s2) S) (f3:∀ S,fStr [.int k] S=.ok (.str s3) S) (a1:∀ S,oAdd (.str s1) (.str (Str.ofString "-")) S=.ok (.str t1) S) (a2:∀ S,oAdd (.str t1) (.str s2) S=.ok (.str t2) S) (a3:∀ S,oAdd (.str t2) (.str (Str.ofString "/")) S=.ok (.str t3) S) (a4:∀ S,oAdd (.str t3) (.str s3) S=.ok (.str t4) S)
  (h1:S++[O.lst sgL]=S1) (i1:oIx (.lst S.length) (.int o) S1=.ok (.str sg) S1) (a5:∀ S,oAdd (.str t4) (.str sg) S=.ok (.str w) S) (st:oSet (.dct m) (.str w) (.tup [.int a,.int b,.int k,.int o]) S1=some S2) :
  law_contacts_in_l4 c [v0,v1,some (.dct m),some (.int a),some (.int b),some (.int k),some (.int o),v7] S=.nx [v0,v1,some (.dct m),some (.int a),some (.int b),some (.int k),some (.int o),some (.str w)] S2:=by
 unfold sgL at h1
 simp [law_contacts_in_l4,f1,f2,f3,a1,a2,a3,a4,h1,i1,a5,st]
theorem ci_step (c:CLL) {v0 v1 v7:Option D}{m:Nat}{sw pl a b k o:Int}{S:Store}{n:Nat} (hsw:sw≤4) (hpl:pl≤7) (hc:(⟨a,b,k,o⟩:Ct).ok sw pl) (h:KD S m (Bf sw pl a b k o) n) (hn:n≤5000) :
  ∃ S',law_contacts_in_l4 c [v0,v1,some (.dct m),some (.int a),some (.int b),some (.int k),some (.int o),v7] S=.nx [v0,v1,some (.dct m),some (.int a),some (.int b),some (.int k),some (.int o),some (.str (wdC ⟨a,b,k,o⟩))] S'∧Kp (·=m) S S'∧KD S' m (Bf sw pl a b k (o+1)) (n+1):=by
 obtain ⟨q1,q2,q3,q4,q5,q6,q7⟩:=hc
 dsimp only at q1 q2 q3 q4 q5 q6 q7
 have g:Cg ⟨a,b,k,o⟩:=⟨by dsimp only; omega,by dsimp only; omega,by dsimp only; omega,by dsimp only; omega⟩
 obtain ⟨T1,ht⟩:∃ T1,S++[O.lst sgL]=T1:=⟨_,rfl⟩
 have xt:Ex S T1:=ht▸ex_app _ _
 have ls:lstAt T1 S.length=some sgL:=by rw [← ht]; exact lstAt_new _ _
 have i1:oIx (.lst S.length) (.int o) T1=.ok (.str (sgn o)) T1:=by
  rw [oIx_lst ls]
  rcases g.o with e | e <;> dsimp only at e <;> rw [e] <;> rfl
 obtain ⟨S',st,kp,kd⟩:=(h.ex xt).put hn g
 have ew:((((fig a.toNat++(⟨#[45]⟩:Str))++fig b.toNat)++(⟨#[47]⟩:Str))++fig k.toNat)++sgn o=wdC ⟨a,b,k,o⟩:=by
  unfold sgn wdC fig
  split <;> rfl
 refine ⟨S',?_,xt.kp.trans kp,kd.congr (bf_put ⟨q1,q2,q3,q4,q5,q6,q7⟩)⟩
 exact ci_l4 c (fStr_int (by omega) (by omega)) (fStr_int (by omega) (by omega)) (fStr_int (by omega) (by omega)) (fun S=>oAdd_str (y:=⟨#[45]⟩) (by show 1+1≤1000; decide) S) (oAdd_str (by show 2+1≤1000; decide)) (fun S=>oAdd_str (y:=⟨#[47]⟩) (by show 3+1≤1000; decide) S) (oAdd_str (by show 4+1≤1000; decide)) ht i1 (fun S=>by rw [oAdd_str (by show 5+(sgn o).length≤1000; rw [sgn_len]; decide),ew]) st
theorem ci_3 (c:CLL) {v0 v1:D}{w6 w7:Option D}{m:Nat}{sw pl a b k:Int}{S:Store}{n:Nat} (hsw:sw≤4) (hpl:pl≤7) (hc:∀ o,0≤o→o<2→(⟨a,b,k,o⟩:Ct).ok sw pl) (h:KD S m (Bf sw pl a b k 0) n) (hn:n≤4000) :
  ∃ o w S',law_contacts_in_l3 c [some v0,some v1,some (.dct m),some (.int a),some (.int b),some (.int k),w6,w7] S=.nx [some v0,some v1,some (.dct m),some (.int a),some (.int b),some (.int k),o,w] S'∧Kp (·=m) S S'∧KD S' m (Bf sw pl a b (k+1) 0) (n+2):=by
 obtain ⟨S1,e1,x1,k1⟩:=ci_step c (v0:=some v0) (v1:=some v1) (v7:=w7) hsw hpl (hc 0 (by decide) (by decide)) h (by omega)
 obtain ⟨S2,e2,x2,k2⟩:=ci_step c (v0:=some v0) (v1:=some v1) (v7:=some (.str (wdC ⟨a,b,k,0⟩))) hsw hpl (hc 1 (by decide) (by decide)) k1 (by omega)
 refine ⟨some (.int 1),some (.str (wdC ⟨a,b,k,1⟩)),S2,?_,x1.trans x2,(k2.congr bf_k)⟩
 have el:([D.int 0,D.int 1]:List D).length<lim:=by decide
 have e:loopS [] (gN 6) (law_contacts_in_l4 c) [.int 0,.int 1] [some v0,some v1,some (.dct m),some (.int a),some (.int b),some (.int k),w6,w7] S=.nx [some v0,some v1,some (.dct m),some (.int a),some (.int b),some (.int k),some (.int 1),some (.str (wdC ⟨a,b,k,1⟩))] S2:=by
  unfold loopS
  rw [if_pos (okW_nil S)]
  show (match law_contacts_in_l4 c [some v0,some v1,some (.dct m),some (.int a),some (.int b),some (.int k),some (.int 0),w7] S with | .nx ρ2 S2=>loopS [] (gN 6) (law_contacts_in_l4 c) [.int 1] ρ2 S2 | .ct ρ2 S2=>loopS [] (gN 6) (law_contacts_in_l4 c) [.int 1] ρ2 S2 | .bk ρ2 S2=>.nx ρ2 S2 | r=>r)=_
  rw [e1]
  dsimp only
  unfold loopS
  rw [if_pos (okW_nil S1)]
  show (match law_contacts_in_l4 c [some v0,some v1,some (.dct m),some (.int a),some (.int b),some (.int k),some (.int 1),some (.str (wdC ⟨a,b,k,0⟩))] S1 with | .nx ρ2 S2=>loopS [] (gN 6) (law_contacts_in_l4 c) [] ρ2 S2 | .ct ρ2 S2=>loopS [] (gN 6) (law_contacts_in_l4 c) [] ρ2 S2 | .bk ρ2 S2=>.nx ρ2 S2 | r=>r)=_
  rw [e2]
  dsimp only
  unfold loopS
  rw [if_pos (okW_nil S2)]
 simp [law_contacts_in_l3,e]
theorem ci_2 (c:CLL) {v1:D}{w5 w6 w7:Option D}{m:Nat}{sw pl a b:Int}{S:Store}{n:Nat} (s0:0≤sw) (hsw:sw≤4) (hpl:pl≤7) (ha:0≤a) (hab:a<b) (hb:b<pl) (h:KD S m (Bf sw pl a b 0 0) n) (hn:n≤3000) :
  ∃ k o w S',law_contacts_in_l2 c [some (.int sw),some v1,some (.dct m),some (.int a),some (.int b),w5,w6,w7] S=.nx [some (.int sw),some v1,some (.dct m),some (.int a),some (.int b),k,o,w] S'∧Kp (·=m) S S'∧KD S' m (Bf sw pl a (b+1) 0 0) (n+8):=by
 obtain ⟨ρ',S1,e1,k,o,w,rfl,x1,kd⟩:=loop_inv (w:=[]) (g:=gN 5) (b:=law_contacts_in_l3 c) (items:=upD 0 sw.toNat)
  (fun i ρ S'=>∃ k o w,ρ=[some (.int sw),some v1,some (.dct m),some (.int a),some (.int b),k,o,w]∧Kp (·=m) S S'∧KD S' m (Bf sw pl a b (i:Int) 0) (n+2*i)) (ρ:=[some (.int sw),some v1,some (.dct m),some (.int a),some (.int b),w5,w6,w7]) (S:=S)
  (fun _ _ _ _=>okW_nil _) ⟨w5,w6,w7,rfl,Kp.refl _ _,h⟩
  (fun i d ρ S' hd hp=>by
   obtain ⟨k,o,w,rfl,x,kd⟩:=hp
   rw [upD_get] at hd
   obtain ⟨hj,rfl⟩:=hd
   obtain ⟨o',w',S2,e2,x2,kd2⟩:=ci_3 c (v0:=.int sw) (v1:=v1) (w6:=o) (w7:=w) (k:=0+(i:Int)) hsw hpl (fun o o0 o1=>⟨ha,hab,hb,by dsimp only; omega,by dsimp only; omega,o0,o1⟩) (kd.congr fun c=>by rw [show (0:Int)+(i:Int)=(i:Int) by omega]) (by omega)
   refine ⟨_,_,rfl,_,S2,.inl e2,_,_,_,rfl,x.trans x2,(kd2.congr fun c=>by rw [show (0:Int)+(i:Int)+1=((i+1:Nat):Int) by omega]).up (by omega)⟩)
 rw [upD_len] at kd
 refine ⟨k,o,w,S1,?_,x1,((kd.congr fun c=>by rw [show ((sw.toNat:Nat):Int)=sw by omega]).congr bf_b).up (by omega)⟩
 have f2:-4611686018427387904≤sw∧sw<4611686018427387904:=by omega
 have hl:(upD 0 sw.toNat).length<lim:=by rw [upD_len,lim_eq]; omega
 simp [law_contacts_in_l2,f2,hl,e1]
theorem ci_1 (c:CLL) {w4 w5 w6 w7:Option D}{m:Nat}{sw pl a a1:Int}{S:Store}{n:Nat} (s0:0≤sw) (hsw:sw≤4) (hpl:pl≤7) (ha:0≤a) (hap:a<pl) (h1:a+1=a1) (h:KD S m (Bf sw pl a a1 0 0) n) (hn:n≤2000) :
  ∃ b k o w S',law_contacts_in_l1 c [some (.int sw),some (.int pl),some (.dct m),some (.int a),w4,w5,w6,w7] S=.nx [some (.int sw),some (.int pl),some (.dct m),some (.int a),b,k,o,w] S'∧Kp (·=m) S S'∧KD S' m (Bf sw pl (a+1) (a+1+1) 0 0) (n+60):=by
 obtain ⟨ρ',S1,e1,b,k,o,w,rfl,x1,kd⟩:=loop_inv (w:=[]) (g:=gN 4) (b:=law_contacts_in_l2 c) (items:=upD a1 (pl - a1).toNat)
  (fun i ρ S'=>∃ b k o w,ρ=[some (.int sw),some (.int pl),some (.dct m),some (.int a),b,k,o,w]∧Kp (·=m) S S'∧KD S' m (Bf sw pl a (a1+(i:Int)) 0 0) (n+8*i)) (ρ:=[some (.int sw),some (.int pl),some (.dct m),some (.int a),w4,w5,w6,w7]) (S:=S)
  (fun _ _ _ _=>okW_nil _) ⟨w4,w5,w6,w7,rfl,Kp.refl _ _,h.congr fun c=>by rw [show a1+((0:Nat):Int)=a1 by omega]⟩
  (fun i d ρ S' hd hp=>by
   obtain ⟨b,k,o,w,rfl,x,kd⟩:=hp
   rw [upD_get] at hd
   obtain ⟨hj,rfl⟩:=hd
   obtain ⟨k',o',w',S2,e2,x2,kd2⟩:=ci_2 c (v1:=.int pl) (w5:=k) (w6:=o) (w7:=w) (b:=a1+(i:Int)) s0 hsw hpl ha (by omega) (by omega) kd (by omega)
   refine ⟨_,_,rfl,_,S2,.inl e2,_,_,_,_,rfl,x.trans x2,(kd2.congr fun c=>by rw [show a1+(i:Int)+1=a1+((i+1:Nat):Int) by omega]).up (by omega)⟩)
 rw [upD_len] at kd
 refine ⟨b,k,o,w,S1,?_,x1,(kd.congr (bf_a (by omega))).up (by omega)⟩
 obtain ⟨mm,hmm⟩:∃ mm,(pl - a1).toNat=mm:=⟨_,rfl⟩
 rw [hmm] at e1
 have hl:(upD a1 mm).length<lim:=by rw [upD_len,lim_eq]; omega
 have f1:-4611686018427387904≤a1∧a1<4611686018427387904:=by omega
 have f2:-4611686018427387904≤pl∧pl<4611686018427387904:=by omega
 simp [law_contacts_in_l1,h1,f1,f2,hmm,hl,e1]
theorem contacts_in_spec (h:Hs_law_contacts_in cl) (n:Nat) {sw pl:Int} (s0:0≤sw) (hsw:sw≤4) (p0:2≤pl) (hpl:pl≤7) (S:Store):∃ S1,cl (n+1) "_law_contacts_in" [.int sw,.int pl] S=.ok (.dct S.length) S1∧Ex S S1∧KD S1 S.length (fun c=>c.ok sw pl) 1000:=by
 have k0:KD (S++[O.dk []]) S.length (Bf sw pl 0 1 0 0) 0:=⟨fun c hc=>by obtain ⟨hc,q⟩:=hc; unfold Ct.ok at hc; omega,[],by rw [List.getElem?_append_right (Nat.le_refl _)]; simp,by simp,fun w d=>⟨fun e=>by simp [valD] at e,fun ⟨c,hc,_⟩=>by obtain ⟨hc,q⟩:=hc; unfold Ct.ok at hc; omega⟩⟩
 obtain ⟨ρ',S1,e1,a,b,k,o,w,rfl,x1,kd⟩:=loop_inv (w:=[]) (g:=gN 3) (b:=law_contacts_in_l1 (cl n)) (items:=upD 0 pl.toNat)
  (fun i ρ S'=>∃ a b k o w,ρ=[some (.int sw),some (.int pl),some (.dct S.length),a,b,k,o,w]∧Kp (·=S.length) (S++[O.dk []]) S'∧KD S' S.length (Bf sw pl (i:Int) ((i:Int)+1) 0 0) (60*i)) (ρ:=[some (.int sw),some (.int pl),some (.dct S.length),none,none,none,none,none]) (S:=S++[O.dk []])
  (fun _ _ _ _=>okW_nil _) ⟨none,none,none,none,none,rfl,Kp.refl _ _,k0⟩
  (fun i d ρ S' hd hp=>by
   obtain ⟨a,b,k,o,w,rfl,x,kd⟩:=hp
   rw [upD_get] at hd
   obtain ⟨hj,rfl⟩:=hd
   obtain ⟨b',k',o',w',S2,e2,x2,kd2⟩:=ci_1 (cl n) (w4:=b) (w5:=k) (w6:=o) (w7:=w) (a:=0+(i:Int)) s0 hsw hpl (by omega) (by omega) rfl (kd.congr fun c=>by rw [show (0:Int)+(i:Int)=(i:Int) by omega]) (by omega)
   refine ⟨_,_,rfl,_,S2,.inl e2,_,_,_,_,_,rfl,x.trans x2,(kd2.congr fun c=>by rw [show (0:Int)+(i:Int)+1=((i+1:Nat):Int) by omega]).up (by omega)⟩)
 rw [upD_len] at kd
 have all:∀ c,Bf sw pl ((pl.toNat:Nat):Int) (((pl.toNat:Nat):Int)+1) 0 0 c↔c.ok sw pl:=fun c=>by
  unfold Bf
  constructor
  ·exact fun q=>q.1
  ·intro q
   refine ⟨q,?_⟩
   unfold Ct.ok at q
   omega
 refine ⟨S1,?_,?_,(kd.congr all).up (by omega)⟩
 ·rw [h]
  have f2:-4611686018427387904≤pl∧pl<4611686018427387904:=by omega
  have hl:(upD 0 pl.toNat).length<lim:=by rw [upD_len,lim_eq]; omega
  refine run_rt rfl ?_
  simp [b_law_contacts_in,startE,f2,hl,e1]
 ·refine ⟨by have:=x1.le; simp at this; omega,fun j hj _=>?_⟩
  rw [x1.eq j (by simp; omega) (by omega),List.getElem?_append_left hj]
theorem inV_strs (a:Str) (l:List Str):inV (.str a) (l.map V.str)=decide (a∈l):=by
 unfold inV
 induction l with
 | nil=>rfl
 | cons x r ih =>
  rw [List.map_cons,List.any_cons,ih]
  by_cases h:x=a
  ·subst h; simp [eqV]
  ·have h2:¬ a=x:=fun z=>h z.symm
   simp [eqV,h,h2]
theorem flats_strs (l:List Str):(l.map D.str).mapM flat=some (l.map V.str):=by
 induction l with
 | nil=>rfl
 | cons x r ih=>rw [List.map_cons,List.mapM_cons,ih]; rfl
theorem oIn_strs {S:Store}{k:Nat}{l:List Str} (h:lstAt S k=some (l.map D.str)) (a:Str):oIn true (.str a) (.lst k) S=.ok (.bl (!decide (a∈l))) S:=by
 have hs:seqAt S (.lst k)=some (l.map D.str):=h
 have hf:flat (.str a)=some (.str a):=rfl
 unfold oIn
 dsimp only
 rw [hs,hf]
 dsimp only
 rw [flats_strs]
 dsimp only
 rw [inV_strs,if_pos rfl]
noncomputable def swL:List Str:=[Str.ofString "1",Str.ofString "2",Str.ofString "3",Str.ofString "4"]
noncomputable def plL:List Str:=[Str.ofString "2:",Str.ofString "3:",Str.ofString "4:",Str.ofString "5:",Str.ofString "6:",Str.ofString "7:"]
theorem swL_at {w:Str} (h:w∈swL):∃ i:Int,1≤i∧i≤4∧w=fig i.toNat∧∀ S,fInt [.str w] S=.ok (.int i) S:=by
 have it:∀ (z:Str) (i:Int),z.length≤640→PySem.intText? z=some i→∀ S,fInt [.str z] S=.ok (.int i) S:=fun z i hl e S=>by
  show (if z.length≤640 then (match PySem.intText? z with | some n=>R.ok (D.int n) S | none=>.bad) else .bad)=_
  rw [if_pos hl,e]
 simp only [swL,List.mem_cons,List.not_mem_nil,or_false] at h
 rcases h with rfl | rfl | rfl | rfl
 ·exact ⟨1,by decide,by decide,by decide +kernel,it _ _ (by decide +kernel) (by decide +kernel)⟩
 ·exact ⟨2,by decide,by decide,by decide +kernel,it _ _ (by decide +kernel) (by decide +kernel)⟩
 ·exact ⟨3,by decide,by decide,by decide +kernel,it _ _ (by decide +kernel) (by decide +kernel)⟩
 ·exact ⟨4,by decide,by decide,by decide +kernel,it _ _ (by decide +kernel) (by decide +kernel)⟩
theorem plL_at {w:Str} (h:w∈plL):∃ i:Int,2≤i∧i≤7∧w=(⟨#[48+i.toNat,58]⟩:Str)∧w.length=2∧∀ S,fInt [.str (ch w 0)] S=.ok (.int i) S:=by
 have it:∀ (z:Str) (i:Int),z.length≤640→PySem.intText? z=some i→∀ S,fInt [.str z] S=.ok (.int i) S:=fun z i hl e S=>by
  show (if z.length≤640 then (match PySem.intText? z with | some n=>R.ok (D.int n) S | none=>.bad) else .bad)=_
  rw [if_pos hl,e]
 simp only [plL,List.mem_cons,List.not_mem_nil,or_false] at h
 rcases h with rfl | rfl | rfl | rfl | rfl | rfl
 ·exact ⟨2,by decide,by decide,by decide +kernel,by decide +kernel,it _ _ (by decide +kernel) (by decide +kernel)⟩
 ·exact ⟨3,by decide,by decide,by decide +kernel,by decide +kernel,it _ _ (by decide +kernel) (by decide +kernel)⟩
 ·exact ⟨4,by decide,by decide,by decide +kernel,by decide +kernel,it _ _ (by decide +kernel) (by decide +kernel)⟩
 ·exact ⟨5,by decide,by decide,by decide +kernel,by decide +kernel,it _ _ (by decide +kernel) (by decide +kernel)⟩
 ·exact ⟨6,by decide,by decide,by decide +kernel,by decide +kernel,it _ _ (by decide +kernel) (by decide +kernel)⟩
 ·exact ⟨7,by decide,by decide,by decide +kernel,by decide +kernel,it _ _ (by decide +kernel) (by decide +kernel)⟩
theorem sw_in {i:Int} (h1:1≤i) (h4:i≤4):fig i.toNat∈swL:=by
 have:i=1∨i=2∨i=3∨i=4:=by omega
 rcases this with rfl | rfl | rfl | rfl <;> decide +kernel
theorem pl_in {i:Int} (h2:2≤i) (h7:i≤7):(⟨#[48+i.toNat,58]⟩:Str)∈plL:=by
 have:i=2∨i=3∨i=4∨i=5∨i=6∨i=7:=by omega
 rcases this with rfl | rfl | rfl | rfl | rfl | rfl <;> decide +kernel
theorem isN_ws {z:Str} (h:IsN z):∃ N:Net,N.g∧sp z=wsN N:=by
 obtain ⟨N,ok,rfl⟩:=h
 exact ⟨N,ok,tx_split N⟩
theorem du_1 (c:CLL) {z:Str}{k:Nat}{len:Int}{S S1:Store} (s:mSplit (.str z) [.str (Str.ofString " ")] S=.ok (.lst k) S1) (f:fLen [.lst k] S1=.ok (.int len) S1) (h2:len<2):b_law_due_v3 c [some (.str z),none,none] S=.rt .non S1:=by
 simp [b_law_due_v3,s,f,h2,tyOk]
theorem du_2 (c:CLL) {z w0:Str}{k:Nat}{len:Int}{S S1 S2:Store} (s:mSplit (.str z) [.str (Str.ofString " ")] S=.ok (.lst k) S1) (f:fLen [.lst k] S1=.ok (.int len) S1) (h2:¬ len<2) (i0:oIx (.lst k) (.int 0) S1=.ok (.str w0) S1) (hS:S1++[O.lst (swL.map D.str)]=S2) (q:oIn true (.str w0) (.lst S1.length) S2=.ok (.bl true) S2):b_law_due_v3 c [some (.str z),none,none] S=.rt .non S2:=by
 simp only [swL,List.map_cons,List.map_nil] at hS
 simp [b_law_due_v3,s,f,h2,i0,hS,q,tyOk]
theorem du_3 (c:CLL) {z w0 w1:Str}{k:Nat}{len:Int}{b1:Bool}{S S1 S2 S3:Store} (s:mSplit (.str z) [.str (Str.ofString " ")] S=.ok (.lst k) S1) (f:∀ S,lstAt S k=lstAt S1 k→fLen [.lst k] S=.ok (.int len) S) (h2:¬ len<2) (i0:oIx (.lst k) (.int 0) S1=.ok (.str w0) S1) (hS:S1++[O.lst (swL.map D.str)]=S2) (q:oIn true (.str w0) (.lst S1.length) S2=.ok (.bl false) S2)
  (i1:oIx (.lst k) (.int 1) S2=.ok (.str w1) S2) (hS3:S2++[O.lst (plL.map D.str)]=S3) (q1:oIn true (.str w1) (.lst S2.length) S3=.ok (.bl b1) S3) (ls:lstAt S3 k=lstAt S1 k) (hb:b1=true∨18<len):b_law_due_v3 c [some (.str z),none,none] S=.rt .non S3:=by
 have f1:=f S1 rfl
 have f3:=f S3 ls
 simp only [swL,List.map_cons,List.map_nil] at hS
 simp only [plL,List.map_cons,List.map_nil] at hS3
 cases b1 with
 | true=>simp [b_law_due_v3,s,f1,h2,i0,hS,q,i1,hS3,q1,tyOk]
 | false =>
  have h18:(18:Int)<len:=hb.resolve_left (by simp)
  simp [b_law_due_v3,s,f1,h2,i0,hS,q,i1,hS3,q1,f3,h18,tyOk]
theorem du_4 (c:CLL) {z w0 w1 z2:Str}{k m:Nat}{len sw pl:Int}{X Y:List D}{S S1 S2 S3 S4 S5 S6:Store} (s:mSplit (.str z) [.str (Str.ofString " ")] S=.ok (.lst k) S1) (f:∀ S,lstAt S k=lstAt S1 k→fLen [.lst k] S=.ok (.int len) S) (h2:¬ len<2) (h18:¬ 18<len) (i0:∀ S,lstAt S k=lstAt S1 k→oIx (.lst k) (.int 0) S=.ok (.str w0) S) (hS:S1++[O.lst (swL.map D.str)]=S2) (q:oIn true (.str w0) (.lst S1.length) S2=.ok (.bl false) S2)
  (i1:∀ S,lstAt S k=lstAt S1 k→oIx (.lst k) (.int 1) S=.ok (.str w1) S) (hS3:S2++[O.lst (plL.map D.str)]=S3) (q1:oIn true (.str w1) (.lst S2.length) S3=.ok (.bl false) S3) (ls2:lstAt S2 k=lstAt S1 k) (ls3:lstAt S3 k=lstAt S1 k) (n0:∀ S,fInt [.str w0] S=.ok (.int sw) S) (i2:∀ S,oIx (.str w1) (.int 0) S=.ok (.str z2) S) (n1:∀ S,fInt [.str z2] S=.ok (.int pl) S)
  (e4:c "_law_contacts_in" [.int sw,.int pl] S3=.ok (.dct m) S4) (sl:oSl (.lst k) (some 2) none S4=.ok (.lst S4.length) S5) (l5:lstAt S5 S4.length=some X) (lX:X.length<lim) (c1:loopC [(S4.length,X)] .one (law_due_v3_t2 c) (law_due_v3_e2 c) [none,some (.dct m)] X S5=.ok Y S5) (h6:S5++[O.lst Y]=S6) (qq:oNe (.lst S5.length) (.lst S6.length) (S6++[O.lst []])=.ok (.bl true) (S6++[O.lst []])):b_law_due_v3 c [some (.str z),none,none] S=.rt .non (S6++[O.lst []]):=by
 have f1:=f S1 rfl
 have f3:=f S3 ls3
 have j0:=i0 S1 rfl
 have j3:=i0 S3 ls3
 have k2:=i1 S2 ls2
 have k3:=i1 S3 ls3
 simp only [swL,List.map_cons,List.map_nil] at hS
 simp only [plL,List.map_cons,List.map_nil] at hS3
 simp [b_law_due_v3,s,f1,h2,j0,hS,q,k2,hS3,q1,f3,h18,j3,n0,k3,i2,n1,e4,sl,l5,lX,c1,h6,qq,tyOk]
theorem du_5 (c:CLL) {z w0 w1 z2:Str}{k m:Nat}{len sw pl:Int}{X Z:List D}{S S1 S2 S3 S4 S5 S6 S7 S8 S9:Store} (s:mSplit (.str z) [.str (Str.ofString " ")] S=.ok (.lst k) S1) (f:∀ S,lstAt S k=lstAt S1 k→fLen [.lst k] S=.ok (.int len) S) (h2:¬ len<2) (h18:¬ 18<len) (i0:∀ S,lstAt S k=lstAt S1 k→oIx (.lst k) (.int 0) S=.ok (.str w0) S) (hS:S1++[O.lst (swL.map D.str)]=S2) (q:oIn true (.str w0) (.lst S1.length) S2=.ok (.bl false) S2)
  (i1:∀ S,lstAt S k=lstAt S1 k→oIx (.lst k) (.int 1) S=.ok (.str w1) S) (hS3:S2++[O.lst (plL.map D.str)]=S3) (q1:oIn true (.str w1) (.lst S2.length) S3=.ok (.bl false) S3) (ls2:lstAt S2 k=lstAt S1 k) (ls3:lstAt S3 k=lstAt S1 k) (ls7:lstAt S7 k=lstAt S1 k) (n0:∀ S,fInt [.str w0] S=.ok (.int sw) S) (i2:∀ S,oIx (.str w1) (.int 0) S=.ok (.str z2) S) (n1:∀ S,fInt [.str z2] S=.ok (.int pl) S)
  (e4:c "_law_contacts_in" [.int sw,.int pl] S3=.ok (.dct m) S4) (sl:oSl (.lst k) (some 2) none S4=.ok (.lst S4.length) S5) (l5:lstAt S5 S4.length=some X) (lX:X.length<lim) (c1:loopC [(S4.length,X)] .one (law_due_v3_t2 c) (law_due_v3_e2 c) [none,some (.dct m)] X S5=.ok [] S5) (h6:S5++[O.lst []]=S6) (h7:S6++[O.lst []]=S7) (qq:oNe (.lst S5.length) (.lst S6.length) S7=.ok (.bl false) S7)
  (sl2:oSl (.lst k) (some 2) none S7=.ok (.lst S7.length) S8) (l8:lstAt S8 S7.length=some X) (c2:loopC [(S7.length,X)] .one (fun _=>ret true) (law_due_v3_e1 c) [none,some (.dct m)] X S8=.ok Z S8) (h9:S8++[O.lst Z]=S9) (tp:fTuple [.lst S8.length] S9=.ok (.tup Z) S9):b_law_due_v3 c [some (.str z),none,none] S=.rt (.tup [.int sw,.int pl,.tup Z]) S9:=by
 have f1:=f S1 rfl
 have f3:=f S3 ls3
 have j0:=i0 S1 rfl
 have j3:=i0 S3 ls3
 have j7:=i0 S7 ls7
 have k2:=i1 S2 ls2
 have k3:=i1 S3 ls3
 have k7:=i1 S7 ls7
 simp only [swL,List.map_cons,List.map_nil] at hS
 simp only [plL,List.map_cons,List.map_nil] at hS3
 simp [b_law_due_v3,s,f1,h2,j0,hS,q,k2,hS3,q1,f3,h18,j3,n0,k3,i2,n1,e4,sl,l5,lX,c1,h6,h7,qq,j7,k7,sl2,l8,c2,h9,tp,tyOk]
inductive DuR (r:R D) (z:Str) (S:Store):Prop
 | net (N:Net) (S1:Store) (ok:N.g) (e:r=.ok N.d S1) (h:z=txN N) (x:Ex S S1)
 | no (S1:Store) (e:r=.ok .non S1) (h:¬ IsN z) (x:Ex S S1)
theorem kd_in {S:Store}{m n:Nat}{Q:Ct→Prop} (h:KD S m Q n) (w:Str):∃ b,oIn true (.str w) (.dct m) S=.ok (.bl b) S∧(b=false↔∃ c,Q c∧wdC c=w):=by
 obtain ⟨kvs,a,_,v⟩:=h.d
 have e:dictAt S m (.str w)=some (valD kvs (.inr w)):=by
  unfold dictAt; rw [a]; rfl
 refine ⟨!(valD kvs (Sum.inr w:Key)).isSome,?_,?_⟩
 ·unfold oIn; dsimp only; rw [e]; rfl
 ·rw [Bool.not_eq_false',Option.isSome_iff_exists]
  constructor
  ·rintro ⟨d,hd⟩
   obtain ⟨c,hc,e,_⟩:=(v w d).mp hd
   exact ⟨c,hc,e⟩
  ·rintro ⟨c,hc,e⟩; exact ⟨c.d,(v w c.d).mpr ⟨c,hc,e,rfl⟩⟩
theorem kd_ix {S:Store}{m n:Nat}{Q:Ct→Prop} (h:KD S m Q n) {c:Ct} (hc:Q c):oIx (.dct m) (.str (wdC c)) S=.ok c.d S:=by
 obtain ⟨kvs,a,_,v⟩:=h.d
 have e:dictAt S m (.str (wdC c))=some (some c.d):=by
  unfold dictAt; rw [a]
  show some (valD kvs (.inr (wdC c)))=_
  rw [(v _ _).mpr ⟨c,hc,rfl,rfl⟩]
 unfold oIx; dsimp only; rw [e]
theorem known_cs {Q:Ct→Prop}:∀ r:List Str,(∀ w∈r,∃ c,Q c∧wdC c=w)→∃ cs:List Ct,r=cs.map wdC∧∀ c∈cs,Q c
 | [],_=>⟨[],rfl,fun c hc=>by cases hc⟩
 | w::r,h=>by
  obtain ⟨c,hc,e⟩:=h w (List.mem_cons_self ..)
  obtain ⟨cs,e2,h2⟩:=known_cs r fun w hw=>h w (List.mem_cons_of_mem _ hw)
  refine ⟨c::cs,by rw [List.map_cons,e,← e2],fun c' hc'=>?_⟩
  rcases List.mem_cons.mp hc' with rfl | hc'
  ·exact hc
  ·exact h2 c' hc'
theorem due_spec (h:Hs_law_due_v3 cl) (hci:Hs_law_contacts_in cl) (n:Nat) {z:Str} (hz:z.length≤5000) (ha:Asc z) (S:Store):DuR (cl (n+2) "_law_due" [.str z] S) z S:=by
 rw [show n+2=(n+1)+1 from rfl,h]
 have s:=split_any hz S
 obtain ⟨S1,h1⟩:∃ S1,S++[O.lst ((sp z).map D.str)]=S1:=⟨_,rfl⟩
 rw [h1] at s
 have x1:Ex S S1:=h1▸ex_app _ _
 have l1:lstAt S1 S.length=some ((sp z).map D.str):=by rw [← h1]; exact lstAt_new _ _
 have wl:=sp_len z
 have f:∀ S',lstAt S' S.length=lstAt S1 S.length→fLen [.lst S.length] S'=.ok (.int ((sp z).length:Int)) S':=fun S' e=>by
  have:=fLen_lst (e.trans l1); rw [List.length_map] at this; exact this
 by_cases hl2:(sp z).length<2
 ·refine .no S1 (run_rt rfl (du_1 _ s (f S1 rfl) (by omega))) (fun hn=>?_) x1
  obtain ⟨N,_,e⟩:=isN_ws hn
  rw [e] at hl2
  unfold wsN at hl2
  simp only [List.length_cons] at hl2
  omega
 obtain ⟨w0,w1,r,hws⟩:∃ w0 w1 r,sp z=w0::w1::r:=by
  match hh:sp z,hl2 with
  | [],h=>simp at h
  | [_],h=>simp at h
  | w0::w1::r,_=>exact ⟨w0,w1,r,rfl⟩
 have l1':lstAt S1 S.length=some (.str w0::.str w1::r.map D.str):=by rw [l1,hws]; rfl
 have i0:∀ S',lstAt S' S.length=lstAt S1 S.length→oIx (.lst S.length) (.int 0) S'=.ok (.str w0) S':=fun S' e=>(ix_01 (e.trans l1')).1
 have i1:∀ S',lstAt S' S.length=lstAt S1 S.length→oIx (.lst S.length) (.int 1) S'=.ok (.str w1) S':=fun S' e=>(ix_01 (e.trans l1')).2
 have hl2':¬ ((sp z).length:Int)<2:=by omega
 obtain ⟨S2,hS2⟩:∃ S2,S1++[O.lst (swL.map D.str)]=S2:=⟨_,rfl⟩
 have x2:Ex S1 S2:=hS2▸ex_app _ _
 have q:=oIn_strs (S:=S2) (k:=S1.length) (l:=swL) (by rw [← hS2]; exact lstAt_new _ _) w0
 have ls2:lstAt S2 S.length=lstAt S1 S.length:=(x2.lst l1 fun z=>z).trans l1.symm
 by_cases hsw:w0∈swL
 ·rw [decide_eq_true hsw] at q
  obtain ⟨S3,hS3⟩:∃ S3,S2++[O.lst (plL.map D.str)]=S3:=⟨_,rfl⟩
  have x3:Ex S2 S3:=hS3▸ex_app _ _
  have q1:=oIn_strs (S:=S3) (k:=S2.length) (l:=plL) (by rw [← hS3]; exact lstAt_new _ _) w1
  have ls3:lstAt S3 S.length=lstAt S1 S.length:=((x2.trans x3).lst l1 fun z=>z).trans l1.symm
  by_cases hpl:w1∈plL∧(sp z).length≤18
  ·obtain ⟨hpl,h18⟩:=hpl
   rw [decide_eq_true hpl] at q1
   obtain ⟨sw,s1,s4,rfl,n0⟩:=swL_at hsw
   obtain ⟨pl,p2,p7,hw1,lw1,n1⟩:=plL_at hpl
   have i2:∀ S,oIx (.str w1) (.int 0) S=.ok (.str (ch w1 0)) S:=fun S=>ch_ix (i:=0) (by omega) (by omega) S
   obtain ⟨S4,e4,x4,kd⟩:=contacts_in_spec hci n (sw:=sw) (pl:=pl) (by omega) s4 p2 p7 S3
   have l4:lstAt S4 S.length=some (.str (fig sw.toNat)::.str w1::r.map D.str):=x4.lst (ls3.trans l1') fun z=>z
   have sl:=oSl_lst l4 (some 2) none
   rw [cut2] at sl
   obtain ⟨S5,h5⟩:∃ S5,S4++[O.lst (r.map D.str)]=S5:=⟨_,rfl⟩
   rw [h5] at sl
   have x5:Ex S4 S5:=h5▸ex_app _ _
   have l5:lstAt S5 S4.length=some (r.map D.str):=by rw [← h5]; exact lstAt_new _ _
   have lX:(r.map D.str).length<lim:=by rw [List.length_map,lim_eq]; rw [hws] at h18; simp only [List.length_cons] at h18; omega
   have kd5:=kd.ex x5
   obtain ⟨p,hp⟩:∃ p:Str→Bool,∀ w,oIn true (.str w) (.dct S3.length) S5=.ok (.bl (p w)) S5∧(p w=false↔∃ c:Ct,c.ok sw pl∧wdC c=w):=⟨fun w=>(kd_in kd5 w).choose,fun w=>(kd_in kd5 w).choose_spec⟩
   have c1:loopC [(S4.length,r.map D.str)] .one (law_due_v3_t2 (cl (n+1))) (law_due_v3_e2 (cl (n+1))) [none,some (.dct S3.length)] (r.map D.str) S5=.ok ((r.filter p).map D.str) S5 :=
    comp_pure D.str (okW_one l5) _ _ _ fun w hw=>⟨[some (.str w),some (.dct S3.length)],rfl,by have:=(hp w).1; simp [law_due_v3_t2,this],fun _=>by simp [law_due_v3_e2]⟩
   obtain ⟨S6,h6⟩:∃ S6,S5++[O.lst ((r.filter p).map D.str)]=S6:=⟨_,rfl⟩
   have x6:Ex S5 S6:=h6▸ex_app _ _
   have strOk:∀ w∈r,PyData.strOk w=true:=fun w hw=>(ha.sp (by rw [hws]; exact List.mem_cons_of_mem _ (List.mem_cons_of_mem _ hw))).ok
   have qq:=oNe_lst (S:=S6++[O.lst []]) (a:=S5.length) (b:=S6.length) (xs:=(r.filter p).map D.str) (ys:=[]) (lstAt_app (by rw [← h6]; exact lstAt_new _ _)) (lstAt_new S6 []) (List.all_eq_true.mpr fun d hd=>by
    obtain ⟨w,hw,rfl⟩:=List.mem_map.mp hd
    exact strOk w (List.mem_filter.mp hw).1) rfl
   have xx:Ex S S6:=((x1.trans x2).trans (x3.trans x4)).trans (x5.trans x6)
   by_cases hk:∀ w∈r,p w=false
   ·obtain ⟨cs,hcs,hok⟩:=known_cs (Q:=fun c=>c.ok sw pl) r fun w hw=>(hp w).2.mp (hk w hw)
    have hf:r.filter p=[]:=List.filter_eq_nil_iff.mpr fun w hw=>by rw [hk w hw]; simp
    rw [hf,List.map_nil] at c1 h6
    rw [hf] at qq
    rw [List.map_nil,eqB_self] at qq
    obtain ⟨S7,h7⟩:∃ S7,S6++[O.lst []]=S7:=⟨_,rfl⟩
    have x7:Ex S6 S7:=h7▸ex_app _ _
    rw [h7] at qq
    have l7:lstAt S7 S.length=some (.str (fig sw.toNat)::.str w1::r.map D.str):=((x5.trans x6).trans x7).lst l4 fun z=>z
    have sl2:=oSl_lst l7 (some 2) none
    rw [cut2] at sl2
    obtain ⟨S8,h8⟩:∃ S8,S7++[O.lst (r.map D.str)]=S8:=⟨_,rfl⟩
    rw [h8] at sl2
    have x8:Ex S7 S8:=h8▸ex_app _ _
    have l8:lstAt S8 S7.length=some (r.map D.str):=by rw [← h8]; exact lstAt_new _ _
    have kd8:=kd5.ex ((x6.trans x7).trans x8)
    have c2:loopC [(S7.length,r.map D.str)] .one (fun _=>ret true) (law_due_v3_e1 (cl (n+1))) [none,some (.dct S3.length)] (r.map D.str) S8=.ok (cs.map Ct.d) S8:=by
     rw [hcs,List.map_map]
     exact comp_pureM (fun c=>D.str (wdC c)) (okW_one (by rw [← List.map_map,← hcs]; exact l8)) _ cs fun c hc=>⟨[some (.str (wdC c)),some (.dct S3.length)],rfl,by
      have:=kd_ix kd8 (hok c hc)
      simp [law_due_v3_e1,this]⟩
    obtain ⟨S9,h9⟩:∃ S9,S8++[O.lst (cs.map Ct.d)]=S9:=⟨_,rfl⟩
    have tp:fTuple [.lst S8.length] S9=.ok (.tup (cs.map Ct.d)) S9:=by rw [← h9]; exact fTuple_lst (lstAt_new _ _)
    have cl16:cs.length≤16:=by rw [hws,hcs] at h18; simp only [List.length_cons,List.length_map] at h18; omega
    refine .net ⟨sw,pl,cs⟩ S9 ⟨s1,s4,p2,p7,by show (cs.length:Int)≤16; omega,hok⟩ (run_rt rfl (du_5 _ s f hl2' (by omega) i0 hS2 q i1 hS3 q1 ls2 ls3 (l7.trans l1'.symm) n0 i2 n1 e4 sl l5 lX c1 h6 h7 qq sl2 l8 c2 h9 tp)) (of_ws ?_) ((xx.trans x7).trans (x8.trans (h9▸ex_app _ _)))
    rw [hws,hcs,hw1]
    rfl
   ·have hne:eqB ((r.filter p).map D.str) []=false:=eqB_false fun e=>hk fun w hw=>by
     have:=List.filter_eq_nil_iff.mp (List.map_eq_nil_iff.mp e) w hw
     simpa using this
    rw [hne] at qq
    refine .no _ (run_rt rfl (du_4 _ s f hl2' (by omega) i0 hS2 q i1 hS3 q1 ls2 ls3 n0 i2 n1 e4 sl l5 lX c1 h6 qq)) (fun hn=>hk fun w hw=>?_) (xx.trans (ex_app _ _))
    obtain ⟨N,ok,e⟩:=isN_ws hn
    rw [hws] at e
    unfold wsN at e
    rw [List.cons.injEq,List.cons.injEq] at e
    obtain ⟨e0,e1,e2⟩:=e
    rw [e2] at hw
    obtain ⟨c,hc,ec⟩:=List.mem_map.mp hw
    refine (hp w).2.mpr ⟨c,?_,ec⟩
    have hsw':sw=N.sw:=by
     have:=congrArg (fun s:Str=>s.cps.toList) e0
     simp only [fig,List.cons.injEq] at this
     have:=ok.s1; omega
    have hpl':pl=N.pl:=by
     rw [hw1] at e1
     have:=congrArg (fun s:Str=>s.cps.toList) e1
     simp only [endW,List.cons.injEq] at this
     have:=ok.p1; omega
    rw [hsw',hpl']; exact ok.c2 c hc
  ·refine .no S3 (run_rt rfl (du_3 _ s f hl2' (i0 S1 rfl) hS2 q (i1 S2 ls2) hS3 q1 ls3 ?_)) (fun hn=>hpl ?_) ((x1.trans x2).trans x3)
   ·by_cases hm:w1∈plL
    ·exact .inr (by have:¬ (sp z).length≤18:=fun z=>hpl ⟨hm,z⟩; omega)
    ·exact .inl (by rw [decide_eq_false hm]; rfl)
   ·obtain ⟨N,ok,e⟩:=isN_ws hn
    have hc:=ok.c1
    refine ⟨?_,by rw [e]; simp [wsN]; omega⟩
    rw [hws] at e
    unfold wsN at e
    rw [List.cons.injEq,List.cons.injEq] at e
    rw [e.2.1]
    exact pl_in ok.p1 ok.p2
 ·rw [decide_eq_false hsw] at q
  refine .no S2 (run_rt rfl (du_2 _ s (f S1 rfl) hl2' (i0 S1 rfl) hS2 q)) (fun hn=>hsw ?_) (x1.trans x2)
  obtain ⟨N,ok,e⟩:=isN_ws hn
  rw [hws] at e
  unfold wsN at e
  rw [List.cons.injEq] at e
  rw [e.1]
  exact sw_in ok.s1 ok.s2
theorem oAdd_s {x y:Str} (h:x.length+y.length≤5000) (S:Store):oAdd (.str x) (.str y) S=.ok (.str (x++y)) S:=by
 show (if x.length+y.length≤lim then R.ok (D.str (x++y)) S else .bad)=_
 rw [if_pos (by rw [lim_eq]; omega)]
theorem oSl_s {z:Str} (h:z.length≤5000) (lo hi:Option Int) (S:Store):oSl (.str z) lo hi S=.ok (.str (Txt.slice z lo hi)) S:=by
 show (if z.length≤lim then R.ok (D.str (Txt.slice z lo hi)) S else .bad)=_
 rw [if_pos (by rw [lim_eq]; omega)]
noncomputable def sg16:Str:=Str.ofString "01234567 :-+/.,x"
theorem sg16_at {r:Int} (h0:0≤r) (h:r<16) (S:Store):oIx (.str sg16) (.int r) S=.ok (.str (ch sg16 r.toNat)) S:=by
 have l16:sg16.length=16:=by decide +kernel
 have:=ch_ix (w:=sg16) (i:=r.toNat) (by omega) (by omega) S
 rwa [show ((r.toNat:Nat):Int)=r by omega] at this
theorem ch_asc {w:Str} (h:Asc w) (i:Nat):Asc (ch w i):=fun c hc=>by
 have:c=w.cps.toList.getD i 0:=by simpa [ch] using hc
 rw [this,List.getD_eq_getElem?_getD]
 cases e:w.cps.toList[i]? with
 | none=>decide
 | some x=>exact h x (List.mem_of_getElem? e)
theorem asc_sg16:Asc sg16:=by
 have:∀ c∈sg16.cps.toList,c<128:=by decide +kernel
 exact this
theorem be_lt (c:CLL) {i:Nat}{z sg a b d t1 t2 t3 t4 z':Str}{kd at_ r3 len:Int}{S S1 S2 S3 S4:Store} (e1:c "_law_take" [.lst i,.int 9] S=.ok (.int kd) S1) (fl:∀ S,fLen [.str z] S=.ok (.int len) S) (e2:c "_law_take" [.lst i,.int (len+1)] S1=.ok (.int at_) S2) (e3:c "_law_take" [.lst i,.int 16] S2=.ok (.int r3) S3) (i3:∀ S,oIx (.str (Str.ofString "01234567 :-+/.,x")) (.int r3) S=.ok (.str sg) S) (h4:kd<4)
  (s1:∀ S,oSl (.str z) none (some at_) S=.ok (.str a) S) (s2:∀ S,oSl (.str z) (some (at_+1)) none S=.ok (.str b) S) (s3:∀ S,oSl (.str z) (some at_) none S=.ok (.str d) S) (p1:∀ S,oAdd (.str a) (.str b) S=.ok (.str t1) S) (p2:∀ S,oAdd (.str a) (.str sg) S=.ok (.str t2) S) (p3:∀ S,oAdd (.str t2) (.str d) S=.ok (.str t3) S) (p4:∀ S,oAdd (.str t2) (.str b) S=.ok (.str t4) S)
  (hS:S3++[O.lst [.str t1,.str t3,.str t4,.str z]]=S4) (ix:oIx (.lst S3.length) (.int kd) S4=.ok (.str z') S4):b_law_bent_v9 c [some (.lst i),some (.str z),none,none,none,none,none,none,none] S=.rt (.str z') S4:=by
 simp [b_law_bent_v9,e1,fl,e2,e3,i3,h4,s1,s2,s3,p1,p2,p3,p4,hS,ix]
theorem be_4 (c:CLL) {i k:Nat}{z sg z':Str}{w:D}{kd at_ r3 len wl r6 r7:Int}{S S1 S2 S3 S4 S5 S6 S7:Store} (e1:c "_law_take" [.lst i,.int 9] S=.ok (.int kd) S1) (fl:∀ S,fLen [.str z] S=.ok (.int len) S) (e2:c "_law_take" [.lst i,.int (len+1)] S1=.ok (.int at_) S2) (e3:c "_law_take" [.lst i,.int 16] S2=.ok (.int r3) S3) (i3:∀ S,oIx (.str (Str.ofString "01234567 :-+/.,x")) (.int r3) S=.ok (.str sg) S) (h4:¬ kd<4)
  (s:mSplit (.str z) [.str (Str.ofString " ")] S3=.ok (.lst k) S4) (f4:fLen [.lst k] S4=.ok (.int wl) S4) (e5:c "_law_take" [.lst i,.int wl] S4=.ok (.int r6) S5) (f5:fLen [.lst k] S5=.ok (.int wl) S5) (e6:c "_law_take" [.lst i,.int wl] S5=.ok (.int r7) S6) (ty:tyOk "list" (.lst k) S6=true)
  (hk:kd=4) (m:mList gPopAt (.lst k) [.int r6] S6=.ok w S7) (j:mJoin (.str (Str.ofString " ")) [.lst k] S7=.ok (.str z') S7):b_law_bent_v9 c [some (.lst i),some (.str z),none,none,none,none,none,none,none] S=.rt (.str z') S7:=by
 subst hk
 have ts:∀ x S,tyOk "str" (.str x) S=true:=fun _ _=>rfl
 simp [b_law_bent_v9,e1,fl,e2,e3,i3,s,f4,e5,f5,e6,ty,m,j,ts]
theorem be_5 (c:CLL) {i k:Nat}{z sg z':Str}{w:D}{kd at_ r3 len wl r6 r7:Int}{S S1 S2 S3 S4 S5 S6 S7:Store} (e1:c "_law_take" [.lst i,.int 9] S=.ok (.int kd) S1) (fl:∀ S,fLen [.str z] S=.ok (.int len) S) (e2:c "_law_take" [.lst i,.int (len+1)] S1=.ok (.int at_) S2) (e3:c "_law_take" [.lst i,.int 16] S2=.ok (.int r3) S3) (i3:∀ S,oIx (.str (Str.ofString "01234567 :-+/.,x")) (.int r3) S=.ok (.str sg) S) (h4:¬ kd<4)
  (s:mSplit (.str z) [.str (Str.ofString " ")] S3=.ok (.lst k) S4) (f4:fLen [.lst k] S4=.ok (.int wl) S4) (e5:c "_law_take" [.lst i,.int wl] S4=.ok (.int r6) S5) (f5:fLen [.lst k] S5=.ok (.int wl) S5) (e6:c "_law_take" [.lst i,.int wl] S5=.ok (.int r7) S6) (ty:tyOk "list" (.lst k) S6=true)
  (hk:kd=5) (ix:oIx (.lst k) (.int r6) S6=.ok w S6) (m:mList gInsert (.lst k) [.int r7,w] S6=.ok .non S7) (j:mJoin (.str (Str.ofString " ")) [.lst k] S7=.ok (.str z') S7):b_law_bent_v9 c [some (.lst i),some (.str z),none,none,none,none,none,none,none] S=.rt (.str z') S7:=by
 subst hk
 have ts:∀ x S,tyOk "str" (.str x) S=true:=fun _ _=>rfl
 simp [b_law_bent_v9,e1,fl,e2,e3,i3,s,f4,e5,f5,e6,ty,ix,m,j,ts]
theorem be_6 (c:CLL) {i k:Nat}{z sg z':Str}{wi wj:D}{kd at_ r3 len wl r6 r7:Int}{S S1 S2 S3 S4 S5 S6 S7 S8:Store} (e1:c "_law_take" [.lst i,.int 9] S=.ok (.int kd) S1) (fl:∀ S,fLen [.str z] S=.ok (.int len) S) (e2:c "_law_take" [.lst i,.int (len+1)] S1=.ok (.int at_) S2) (e3:c "_law_take" [.lst i,.int 16] S2=.ok (.int r3) S3) (i3:∀ S,oIx (.str (Str.ofString "01234567 :-+/.,x")) (.int r3) S=.ok (.str sg) S) (h4:¬ kd<4)
  (s:mSplit (.str z) [.str (Str.ofString " ")] S3=.ok (.lst k) S4) (f4:fLen [.lst k] S4=.ok (.int wl) S4) (e5:c "_law_take" [.lst i,.int wl] S4=.ok (.int r6) S5) (f5:fLen [.lst k] S5=.ok (.int wl) S5) (e6:c "_law_take" [.lst i,.int wl] S5=.ok (.int r7) S6)
  (hk:kd=6) (ix:oIx (.lst k) (.int r7) S6=.ok wj S6) (ix2:oIx (.lst k) (.int r6) S6=.ok wi S6) (o1:oSet (.lst k) (.int r6) wj S6=some S7) (o2:oSet (.lst k) (.int r7) wi S7=some S8) (j:mJoin (.str (Str.ofString " ")) [.lst k] S8=.ok (.str z') S8):b_law_bent_v9 c [some (.lst i),some (.str z),none,none,none,none,none,none,none] S=.rt (.str z') S8:=by
 subst hk
 have ts:∀ x S,tyOk "str" (.str x) S=true:=fun _ _=>rfl
 simp [b_law_bent_v9,e1,fl,e2,e3,i3,s,f4,e5,f5,e6,ix,ix2,o1,o2,j,ts]
noncomputable def somA:List Str:=[Str.ofString "0-1/0+",Str.ofString "0-1/0-",Str.ofString "1-0/0+",Str.ofString "0-0/0+",Str.ofString "0-6/3+",Str.ofString "",Str.ofString "7:",Str.ofString "8:"]
noncomputable def somB:List Str:=[Str.ofString "1:",Str.ofString "4",Str.ofString "5",Str.ofString "0",Str.ofString "0-1/0",Str.ofString "0-1/9+"]
theorem be_7 (c:CLL) {i k:Nat}{z sg z':Str}{w:D}{kd at_ r3 len wl r6 r7 r9:Int}{S S1 S2 S3 S4 S5 S6 S7 S8 S9 Sa Sb:Store} (e1:c "_law_take" [.lst i,.int 9] S=.ok (.int kd) S1) (fl:∀ S,fLen [.str z] S=.ok (.int len) S) (e2:c "_law_take" [.lst i,.int (len+1)] S1=.ok (.int at_) S2) (e3:c "_law_take" [.lst i,.int 16] S2=.ok (.int r3) S3) (i3:∀ S,oIx (.str (Str.ofString "01234567 :-+/.,x")) (.int r3) S=.ok (.str sg) S) (h4:¬ kd<4)
  (s:mSplit (.str z) [.str (Str.ofString " ")] S3=.ok (.lst k) S4) (f4:fLen [.lst k] S4=.ok (.int wl) S4) (e5:c "_law_take" [.lst i,.int wl] S4=.ok (.int r6) S5) (f5:fLen [.lst k] S5=.ok (.int wl) S5) (e6:c "_law_take" [.lst i,.int wl] S5=.ok (.int r7) S6)
  (hk4:¬ kd=4) (hk5:¬ kd=5) (hk6:¬ kd=6) (h7:S6++[O.lst (somA.map D.str)]=S7) (h8:S7++[O.lst (somB.map D.str)]=S8) (ad:oAdd (.lst S6.length) (.lst S7.length) S8=.ok (.lst S8.length) S9) (e9:c "_law_take" [.lst i,.int 14] S9=.ok (.int r9) Sa) (ix:oIx (.lst S8.length) (.int r9) Sa=.ok w Sa) (o1:oSet (.lst k) (.int r6) w Sa=some Sb) (j:mJoin (.str (Str.ofString " ")) [.lst k] Sb=.ok (.str z') Sb):b_law_bent_v9 c [some (.lst i),some (.str z),none,none,none,none,none,none,none] S=.rt (.str z') Sb:=by
 have ts:∀ x S,tyOk "str" (.str x) S=true:=fun _ _=>rfl
 simp only [somA,List.map_cons,List.map_nil] at h7
 simp only [somB,List.map_cons,List.map_nil] at h8
 simp [b_law_bent_v9,e1,fl,e2,e3,i3,h4,s,f4,e5,f5,e6,hk4,hk5,hk6,h7,h8,ad,e9,ix,o1,j,ts]
noncomputable abbrev sm (ws:List Str):Nat:=(ws.map (·.length)).sum
theorem sm_app (a b:List Str):sm (a++b)=sm a+sm b:=by unfold sm; rw [List.map_append,List.sum_append]
theorem sm_set:∀ (ws:List Str) (i:Nat) (v w:Str),ws[i]?=some w→sm (ws.set i v)+w.length=sm ws+v.length
 | [],i,v,w,h=>by simp at h
 | a::ws,0,v,w,h=>by
  simp only [List.getElem?_cons_zero,Option.some.injEq] at h
  subst h
  simp only [List.set_cons_zero,sm,List.map_cons,List.sum_cons]; omega
 | a::ws,i+1,v,w,h=>by
  have:=sm_set ws i v w (by simpa using h)
  simp only [List.set_cons_succ,sm,List.map_cons,List.sum_cons] at this ⊢
  omega
inductive Joi (r:R D) (L:Nat) (S:Store):Prop
 | mk (z:Str) (e:r=.ok (.str z) S) (l:z.length≤2*L+7) (a:Asc z)
theorem join_end {S:Store}{k L:Nat}{ws:List Str} (l:lstAt S k=some (ws.map D.str)) (ha:∀ w∈ws,Asc w) (hs:sm ws+ws.length≤2*L+8) (hL:L≤2000):Joi (mJoin (.str (Str.ofString " ")) [.lst k] S) L S:=by
 refine ⟨Txt.join bk ws,mJoin_lst l (join_ok (by show sm ws+ws.length*1≤100000; omega)),?_,?_⟩
 ·unfold Txt.join
  rw [StrLaws.glued_eq_join]
  by_cases hn:ws=[]
  ·subst hn; show 0≤_; omega
  ·have:=join_len ws hn; unfold sm at hs; omega
 ·unfold Txt.join
  rw [StrLaws.glued_eq_join]
  exact asc_join ha
inductive BeR (r:R D) (i L:Nat) (S:Store):Prop
 | mk (z:Str) (S1:Store) (e:r=.ok (.str z) S1) (l:z.length≤2*L+7) (a:Asc z) (k:Kp (·=i) S S1) (st:StOk S1 i)
theorem at_strs {S:Store}{k:Nat}{ws:List Str} (l:lstAt S k=some (ws.map D.str)) {r:Int} (h0:0≤r) (h1:r<ws.length):∃ w,ws[r.toNat]?=some w∧oIx (.lst k) (.int r) S=.ok (.str w) S:=by
 refine ⟨ws[r.toNat],List.getElem?_eq_getElem (by omega),?_⟩
 have e:=oIx_lst l r
 have:=atI_nat (xs:=ws.map D.str) (j:=r.toNat) (v:=.str ws[r.toNat]) (by rw [List.getElem?_map,List.getElem?_eq_getElem (by omega)]; rfl)
 rw [show ((r.toNat:Nat):Int)=r by omega] at this
 rw [this] at e
 exact e
theorem set_strs {S:Store}{k:Nat}{ws:List Str} (l:lstAt S k=some (ws.map D.str)) {r:Int} (h0:0≤r) (h1:r<ws.length) (w:Str):oSet (.lst k) (.int r) (.str w) S=some (S.set k (.lst ((ws.set r.toNat w).map D.str))):=by
 unfold oSet
 dsimp only
 rw [lstAt_some l]
 dsimp only
 have:ixN (ws.map D.str).length r=some r.toNat:=by
  unfold ixN
  rw [if_pos h0,if_pos (by rw [List.length_map]; exact h1)]
 rw [this]
 dsimp only
 rw [List.map_set]
theorem bent_spec (h:Hs_law_bent_v9 cl) (ht:Hs_law_take cl) (n:Nat) {z:Str}{L:Nat} (hz:z.length≤L) (hL:L≤900) (ha:Asc z) {S:Store}{i:Nat} (st:StOk S i):BeR (cl (n+2) "_law_bent" [.lst i,.str z] S) i L S:=by
 rw [show n+2=(n+1)+1 from rfl,h]
 obtain ⟨kd,S1,e1,a1,b1,k1,n1,st1⟩:=take_spec ht n st (m:=9) (by decide) (by decide)
 obtain ⟨at_,S2,e2,a2,b2,k2,n2,st2⟩:=take_spec ht n st1 (m:=(z.length:Int)+1) (by omega) (by omega)
 obtain ⟨r3,S3,e3,a3,b3,k3,n3,st3⟩:=take_spec ht n st2 (m:=16) (by decide) (by decide)
 have fl:∀ S,fLen [.str z] S=.ok (.int (z.length:Int)) S:=fun S=>fLen_s (by omega) S
 have i3:∀ S,oIx (.str (Str.ofString "01234567 :-+/.,x")) (.int r3) S=.ok (.str (ch sg16 r3.toNat)) S:=fun S=>sg16_at a3 b3 S
 have hsg:Asc (ch sg16 r3.toNat):=ch_asc asc_sg16 _
 have k03:Kp (·=i) S S3:=(k1.trans k2).trans k3
 by_cases h4:kd<4
 ·have la:∀ lo hi,(Txt.slice z lo hi).length≤z.length:=fun lo hi=>Txt.slice_le z lo hi
  obtain ⟨a,hA⟩:∃ a,Txt.slice z none (some at_)=a:=⟨_,rfl⟩
  obtain ⟨b,hB⟩:∃ b,Txt.slice z (some (at_+1)) none=b:=⟨_,rfl⟩
  obtain ⟨d,hD⟩:∃ d,Txt.slice z (some at_) none=d:=⟨_,rfl⟩
  have l1:a.length≤z.length:=hA▸la _ _
  have l2:b.length≤z.length:=hB▸la _ _
  have l3:d.length≤z.length:=hD▸la _ _
  have A1:Asc a:=hA▸asc_slice ha _ _
  have A2:Asc b:=hB▸asc_slice ha _ _
  have A3:Asc d:=hD▸asc_slice ha _ _
  obtain ⟨sg,hG⟩:∃ sg,ch sg16 r3.toNat=sg:=⟨_,rfl⟩
  have lg:sg.length=1:=by rw [← hG]; rfl
  rw [hG] at hsg i3
  have e12:(a++sg).length=a.length+sg.length:=Str.length_append a sg
  have t1:(a++b).length=a.length+b.length:=Str.length_append a b
  have t3:(a++sg++d).length=(a++sg).length+d.length:=Str.length_append _ _
  have t4:(a++sg++b).length=(a++sg).length+b.length:=Str.length_append _ _
  obtain ⟨S4,hS⟩:∃ S4,S3++[O.lst [.str (a++b),.str (a++sg++d),.str (a++sg++b),.str z]]=S4:=⟨_,rfl⟩
  have l4:lstAt S4 S3.length=some ([a++b,a++sg++d,a++sg++b,z].map D.str):=by rw [← hS]; exact lstAt_new _ _
  obtain ⟨z',hz',ix⟩:=at_strs l4 a1 (by simp; omega)
  have hm:=List.mem_of_getElem? hz'
  have x4:Ex S3 S4:=hS▸ex_app _ _
  refine ⟨z',S4,run_rt rfl (be_lt _ e1 fl e2 e3 i3 h4 (fun S=>by rw [oSl_s (by omega),hA]) (fun S=>by rw [oSl_s (by omega),hB]) (fun S=>by rw [oSl_s (by omega),hD]) (oAdd_s (by omega)) (oAdd_s (by omega)) (oAdd_s (by omega)) (oAdd_s (by omega)) hS ix),?_,?_,k03.trans x4.kp,st3.ex x4⟩
  ·simp only [List.mem_cons,List.not_mem_nil,or_false] at hm
   rcases hm with rfl | rfl | rfl | rfl <;> omega
  ·simp only [List.mem_cons,List.not_mem_nil,or_false] at hm
   rcases hm with rfl | rfl | rfl | rfl
   ·exact asc_app A1 A2
   ·exact asc_app (asc_app A1 hsg) A3
   ·exact asc_app (asc_app A1 hsg) A2
   ·exact ha
 ·have s:=split_any (z:=z) (by omega) S3
  obtain ⟨S4,hS4⟩:∃ S4,S3++[O.lst ((sp z).map D.str)]=S4:=⟨_,rfl⟩
  rw [hS4] at s
  have x4:Ex S3 S4:=hS4▸ex_app _ _
  have l4:lstAt S4 S3.length=some ((sp z).map D.str):=by rw [← hS4]; exact lstAt_new _ _
  have st4:=st3.ex x4
  have hlt:=st3.lt
  have wp:=List.length_pos_iff.mpr (sp_ne z)
  have wl:=sp_len z
  have wsum:=sp_sum z
  have wa:∀ w∈sp z,Asc w:=fun w hw=>ha.sp hw
  have wb:∀ w∈sp z,w.length≤z.length:=fun w hw=>sp_in hw
  obtain ⟨ws,hws⟩:∃ ws,sp z=ws:=⟨_,rfl⟩
  rw [hws] at l4 wp wl wsum wa wb
  have f4:=fLen_lst l4
  rw [List.length_map] at f4
  obtain ⟨r6,S5,e5,a5,b5,k5,n5,st5⟩:=take_spec ht n st4 (m:=(ws.length:Int)) (by omega) (by omega)
  have ne:¬ S3.length=i:=by omega
  have l5:lstAt S5 S3.length=some (ws.map D.str):=k5.lst l4 ne
  have f5:=fLen_lst l5
  rw [List.length_map] at f5
  obtain ⟨r7,S6,e6,a6,b6,k6,n6,st6⟩:=take_spec ht n st5 (m:=(ws.length:Int)) (by omega) (by omega)
  have l6:lstAt S6 S3.length=some (ws.map D.str):=k6.lst l5 ne
  have k06:Kp (·=i) S S6:=((k03.trans x4.kp).trans k5).trans k6
  have hSl:S.length≤S3.length:=k03.le
  by_cases hk4:kd=4
  ·have m:=mList_ev l6 gPopAt [.int r6]
   obtain ⟨w,hw⟩:∃ w,(ws.map D.str)[r6.toNat]?=some w:=⟨_,List.getElem?_eq_getElem (by rw [List.length_map]; omega)⟩
   have hg:gPopAt (ws.map D.str) [.int r6]=some ((ws.take r6.toNat++ws.drop (r6.toNat+1)).map D.str,w):=by
    unfold gPopAt
    dsimp only
    rw [if_pos ⟨a5,by rw [List.length_map]; omega⟩,hw,List.map_append,List.map_take,List.map_drop]
   rw [hg] at m
   have l7:lstAt (S6.set S3.length (.lst ((ws.take r6.toNat++ws.drop (r6.toNat+1)).map D.str))) S3.length=some _:=lstAt_set l6
   have hsub:sm (ws.take r6.toNat++ws.drop (r6.toNat+1))+(ws.take r6.toNat++ws.drop (r6.toNat+1)).length≤2*L+8:=by
    have e:=sm_app (ws.take r6.toNat) (ws.drop r6.toNat)
    rw [List.take_append_drop] at e
    have e2:sm (ws.drop (r6.toNat+1))≤sm (ws.drop r6.toNat):=by
     rw [List.drop_eq_getElem_cons (show r6.toNat<ws.length by omega)]
     show _≤((_::_:List Str).map _).sum
     rw [List.map_cons,List.sum_cons]; exact Nat.le_add_left _ _
    rw [sm_app,List.length_append,List.length_take,List.length_drop]
    unfold sm at *
    omega
   obtain ⟨z',j,lz,az⟩:=join_end (L:=L) l7 (fun w hw=>wa w (by rcases List.mem_append.mp hw with q | q; exact List.mem_of_mem_take q; exact List.mem_of_mem_drop q)) hsub (by omega)
   exact ⟨z',_,run_rt rfl (be_4 _ e1 fl e2 e3 i3 h4 s f4 e5 f5 e6 (tyOk_lst l6) hk4 m j),lz,az,k06.setNew hSl,st6.setO ne⟩
  ·by_cases hk5:kd=5
   ·obtain ⟨w,hw,ix⟩:=at_strs l6 a5 b5
    have hwm:=List.mem_of_getElem? hw
    have m:=mList_ev l6 gInsert [.int r7,.str w]
    rw [gInsert_ev,if_pos ⟨by rw [List.length_map]; omega,a6,by rw [List.length_map]; omega⟩] at m
    have em:(ws.map D.str).take r7.toNat++D.str w::(ws.map D.str).drop r7.toNat=(ws.take r7.toNat++w::ws.drop r7.toNat).map D.str:=by
     rw [List.map_append,List.map_cons,List.map_take,List.map_drop]
    dsimp only at m
    rw [em] at m
    have l7:lstAt (S6.set S3.length (.lst ((ws.take r7.toNat++w::ws.drop r7.toNat).map D.str))) S3.length=some _:=lstAt_set l6
    have hsub:sm (ws.take r7.toNat++w::ws.drop r7.toNat)+(ws.take r7.toNat++w::ws.drop r7.toNat).length≤2*L+8:=by
     have e:=sm_app (ws.take r7.toNat) (ws.drop r7.toNat)
     rw [List.take_append_drop] at e
     have e2:sm (w::ws.drop r7.toNat)=w.length+sm (ws.drop r7.toNat):=by unfold sm; rw [List.map_cons,List.sum_cons]
     have:=wb w hwm
     rw [sm_app,e2,List.length_append,List.length_cons,List.length_take,List.length_drop]
     unfold sm at *
     omega
    obtain ⟨z',j,lz,az⟩:=join_end (L:=L) l7 (fun v hv=>by
     rcases List.mem_append.mp hv with q | q
     ·exact wa v (List.mem_of_mem_take q)
     ·rcases List.mem_cons.mp q with rfl | q
      ·exact wa _ hwm
      ·exact wa v (List.mem_of_mem_drop q)) hsub (by omega)
    exact ⟨z',_,run_rt rfl (be_5 _ e1 fl e2 e3 i3 h4 s f4 e5 f5 e6 (tyOk_lst l6) hk5 ix m j),lz,az,k06.setNew hSl,st6.setO ne⟩
   ·by_cases hk6:kd=6
    ·obtain ⟨wj,hwj,ix⟩:=at_strs l6 a6 b6
     obtain ⟨wi,hwi,ix2⟩:=at_strs l6 a5 b5
     have o1:=set_strs l6 a5 b5 wj
     have l7:lstAt (S6.set S3.length (.lst ((ws.set r6.toNat wj).map D.str))) S3.length=some _:=lstAt_set l6
     have o2:=set_strs l7 a6 (by rw [List.length_set]; exact b6) wi
     have l8:lstAt ((S6.set S3.length (.lst ((ws.set r6.toNat wj).map D.str))).set S3.length (.lst (((ws.set r6.toNat wj).set r7.toNat wi).map D.str))) S3.length=some _:=lstAt_set l7
     have hsub:sm ((ws.set r6.toNat wj).set r7.toNat wi)+((ws.set r6.toNat wj).set r7.toNat wi).length≤2*L+8:=by
      have g1:=sm_set ws r6.toNat wj wi hwi
      obtain ⟨wk,hwk,hlk⟩:∃ wk,(ws.set r6.toNat wj)[r7.toNat]?=some wk∧wk.length=wj.length:=by
       by_cases e:r6.toNat=r7.toNat
       ·exact ⟨wj,by rw [← e]; exact List.getElem?_set_self (by omega),rfl⟩
       ·exact ⟨wj,by rw [List.getElem?_set_ne e]; exact hwj,rfl⟩
      have g2:=sm_set (ws.set r6.toNat wj) r7.toNat wi wk hwk
      rw [List.length_set,List.length_set]
      unfold sm at *
      omega
     obtain ⟨z',j,lz,az⟩:=join_end (L:=L) l8 (fun v hv=>by
      rcases List.mem_or_eq_of_mem_set hv with q | rfl
      ·rcases List.mem_or_eq_of_mem_set q with q | rfl
       ·exact wa v q
       ·exact wa _ (List.mem_of_getElem? hwj)
      ·exact wa _ (List.mem_of_getElem? hwi)) hsub (by omega)
     exact ⟨z',_,run_rt rfl (be_6 _ e1 fl e2 e3 i3 h4 s f4 e5 f5 e6 hk6 ix ix2 o1 o2 j),lz,az,(k06.setNew hSl).setNew hSl,(st6.setO ne).setO ne⟩
    ·obtain ⟨S7,h7⟩:∃ S7,S6++[O.lst (somA.map D.str)]=S7:=⟨_,rfl⟩
     obtain ⟨S8,h8⟩:∃ S8,S7++[O.lst (somB.map D.str)]=S8:=⟨_,rfl⟩
     have x7:Ex S6 S7:=h7▸ex_app _ _
     have x8:Ex S7 S8:=h8▸ex_app _ _
     have la:lstAt S8 S6.length=some (somA.map D.str):=x8.lst (by rw [← h7]; exact lstAt_new _ _) fun z=>z
     have lb:lstAt S8 S7.length=some (somB.map D.str):=by rw [← h8]; exact lstAt_new _ _
     have ad:=oAdd_lst la lb (by rw [lim_eq]; simp [somA,somB])
     obtain ⟨S9,h9⟩:∃ S9,S8++[O.lst (somA.map D.str++somB.map D.str)]=S9:=⟨_,rfl⟩
     rw [h9] at ad
     have x9:Ex S8 S9:=h9▸ex_app _ _
     have st9:=st6.ex ((x7.trans x8).trans x9)
     obtain ⟨r9,Sa,e9,a9,b9,k9,n9,sta⟩:=take_spec ht n st9 (m:=14) (by decide) (by decide)
     have i6:=st6.lt
     have lc:lstAt Sa S8.length=some ((somA++somB).map D.str):=by
      rw [List.map_append]
      exact k9.lst (by rw [← h9]; exact lstAt_new _ _) (by have:=x7.le; have:=x8.le; omega)
     obtain ⟨v,hv,ix⟩:=at_strs lc a9 (by show r9<((somA++somB).length:Int); rw [show (somA++somB).length=14 from rfl]; omega)
     have hvm:=List.mem_of_getElem? hv
     have hv6:v.length≤6∧Asc v:=by
      have:∀ w∈somA++somB,w.length≤6∧∀ c∈w.cps.toList,c<128:=by decide +kernel
      exact this v hvm
     have lw:lstAt Sa S3.length=some (ws.map D.str):=k9.lst (((x7.trans x8).trans x9).lst l6 fun z=>z) ne
     have o1:=set_strs lw a5 b5 v
     have ld:lstAt (Sa.set S3.length (.lst ((ws.set r6.toNat v).map D.str))) S3.length=some _:=lstAt_set lw
     obtain ⟨wi,hwi,_⟩:=at_strs l6 a5 b5
     have hsub:sm (ws.set r6.toNat v)+(ws.set r6.toNat v).length≤2*L+8:=by
      have g1:=sm_set ws r6.toNat v wi hwi
      have:=hv6.1
      rw [List.length_set]
      unfold sm at *
      omega
     obtain ⟨z',j,lz,az⟩:=join_end (L:=L) ld (fun u hu=>by
      rcases List.mem_or_eq_of_mem_set hu with q | rfl
      ·exact wa u q
      ·exact hv6.2) hsub (by omega)
     have k0a:Kp (·=i) S Sa:=(k06.trans ((x7.trans x8).trans x9).kp).trans k9
     exact ⟨z',_,run_rt rfl (be_7 _ e1 fl e2 e3 i3 h4 s f4 e5 f5 e6 hk4 hk5 hk6 h7 h8 ad e9 ix o1 j),lz,az,k0a.setNew hSl,sta.setO ne⟩
abbrev TB9 (S:Store):Prop:=S[0]?=some (.tb lamD)
theorem TB9.ex {S S':Store} (h:TB9 S) (x:Ex S S'):TB9 S':=x.at h fun z=>z
theorem TB9.kp {S S':Store}{i:Nat} (h:TB9 S) (st:StOk S i) (k:Kp (·=i) S S'):TB9 S':=k.at h fun z=>by
 obtain ⟨s,b,e,_⟩:=st
 have q:=lstAt_some e
 rw [← z] at q
 rw [show S[0]?=_ from h] at q
 cases q
structure H92 (cl:Nat→CLL):Prop where
 d:HD cl
 r:HRd cl
 nt:Hs_law_net_text cl
 ci:Hs_law_contacts_in cl
 du:Hs_law_due_v3 cl
 be:Hs_law_bent_v9 cl
 ri:Hs_law_right_v13 cl
theorem rf92 (c:CLL) {d:D}{S S1:Store} (tb:TB9 S) (e:c "net_read" [d] S=.er "BadNote" S1):∃ S',b_law_right_v13 c [some d,some .non] S=.rt (.bl true) S'∧Ex S1 S':=by
 obtain ⟨m,S2,e1,l1,x1⟩:=rfz_er (c := "BadNote") (k:=4) (js:=[0]) (ρ:=[some d,some .non]) (cb:=cAppX (c "net_read") (cArgs [(cVar 0)])) (S:=S) (S1:=S1) (by decide +kernel) tb (by
  rw [show stE 0 [0] [some d,some D.non]=[some d] from rfl]
  exact (cAppX_ev (xs:=[d]) (S1:=S) (by simp)).trans e)
 have q:=oEq_lst (S:=S2++[O.lst [.int 4]]) (lstAt_app l1) (lstAt_new S2 [.int 4]) rfl rfl
 rw [eqB_self] at q
 refine ⟨S2++[O.lst [.int 4]],?_,x1.trans (ex_app _ _)⟩
 simp [b_law_right_v13,e1,q,D.isNon]
theorem rg92 (c:CLL) {d nd:D}{S S1:Store} (hn:nd.isNon=false) (e:c "net_read" [d] S=.ok nd S1) (q:oEq nd nd S1=.ok (.bl true) S1):b_law_right_v13 c [some d,some nd] S=.rt (.bl true) S1:=by
 simp [b_law_right_v13,hn,e,q]
theorem pl_net (N:Net):plain 40 N.d=true:=plain_tup (n:=39) fun x hx=>by
 simp only [List.mem_cons,List.not_mem_nil,or_false] at hx
 rcases hx with rfl | rfl | rfl
 ·rfl
 ·rfl
 ·exact plain_tup (n:=38) fun y hy=>by
   obtain ⟨c,_,rfl⟩:=List.mem_map.mp hy
   exact plain_tup (n:=37) fun v hv=>by
    simp only [List.mem_cons,List.not_mem_nil,or_false] at hv
    rcases hv with rfl | rfl | rfl | rfl <;> rfl
theorem right92 (H:H92 cl) (n:Nat) {z:Str} (hz:z.length≤5000) (ha:Asc z) {S:Store} (tb:TB9 S):∃ dd S1,cl (n+6) "_law_due" [.str z] S=.ok dd S1∧∃ S2,cl (n+6) "_law_right" [.str z,dd] S1=.ok (.bl true) S2∧Ex S S2:=by
 rcases due_spec H.du H.ci (n+4) hz ha S with ⟨N,S1,ok,e,rfl,x⟩ | ⟨S1,e,hn,x⟩
 ·obtain ⟨S2,e2,x2⟩:=net_read_spec H.r n ok S1
  have q:=oEq_plain S2 (pl_net N) (pl_net N)
  rw [eqB_self] at q
  refine ⟨_,S1,e,S2,?_,x.trans x2⟩
  rw [show n+6=(n+5)+1 from rfl,H.ri]
  exact run_rt rfl (rg92 _ rfl e2 q)
 ·obtain ⟨S2,e2,x2⟩:=read_no H.r n hz hn S1
  obtain ⟨S3,e3,x3⟩:=rf92 (cl (n+5)) (tb.ex x) e2
  refine ⟨_,S1,e,S3,?_,(x.trans x2).trans x3⟩
  rw [show n+6=(n+5)+1 from rfl,H.ri]
  exact run_rt rfl e3
theorem odd92 (H:H92 cl) (n:Nat) {d:D}{S:Store} (tb:TB9 S) (t:fInst [d,.ty "str"] S=.ok (.bl false) S):∃ S2,cl (n+6) "_law_right" [d,.non] S=.ok (.bl true) S2∧Ex S S2:=by
 obtain ⟨S3,e3,x3⟩:=rf92 (cl (n+5)) tb (read_odd H.r n t)
 refine ⟨S3,?_,x3⟩
 rw [show n+6=(n+5)+1 from rfl,H.ri]
 exact run_rt rfl e3
theorem tx_120 {N:Net} (ok:N.g):(txN N).length≤120:=by
 have hl:=ok.c1
 unfold txN Txt.join
 rw [StrLaws.glued_eq_join]
 have:=join_len (wsN N) (by unfold wsN; simp)
 unfold wsN at this ⊢
 rw [List.map_cons,List.map_cons,List.sum_cons,List.sum_cons,ws_sum,List.length_cons,List.length_cons,List.length_map,show (fig N.sw.toNat).length=1 from rfl,show (endW N).length=2 from rfl] at this
 omega
theorem tx_asc {N:Net} (ok:N.g):Asc (txN N):=by
 unfold txN Txt.join
 rw [StrLaws.glued_eq_join]
 refine asc_join fun w hw=>?_
 have:=ok.s1; have:=ok.s2; have:=ok.p1; have:=ok.p2
 unfold wsN at hw
 intro c hc
 rcases List.mem_cons.mp hw with rfl | hw
 ·have:c∈[48+N.sw.toNat]:=hc
  rw [List.mem_singleton] at this; omega
 ·rcases List.mem_cons.mp hw with rfl | hw
  ·have:c∈[48+N.pl.toNat,58]:=hc
   simp only [List.mem_cons,List.not_mem_nil,or_false] at this; omega
  ·obtain ⟨t,ht,rfl⟩:=List.mem_map.mp hw
   have g:=cg_of ok ht
   have:=g.a; have:=g.b; have:=g.k
   have:c∈[48+t.a.toNat,45,48+t.b.toNat,47,48+t.k.toNat,if t.o=1 then 43 else 45]:=hc
   simp only [List.mem_cons,List.not_mem_nil,or_false] at this
   rcases this with h | h | h | h | h | h
   ·omega
   ·omega
   ·omega
   ·omega
   ·omega
   ·rw [h]; split <;> decide
theorem l92_2 (c:CLL) {v0 v1 v4 v5:Option D}{i:Nat}{zd dd z2:D}{S S1 S2 S3:Store} (e1:c "_law_due" [zd] S=.ok dd S1) (e2:c "_law_right" [zd,dd] S1=.ok (.bl true) S2) (e3:c "_law_bent" [.lst i,zd] S2=.ok z2 S3):law_v37_l2 c [v0,v1,some (.lst i),some zd,v4,v5] S=.nx [v0,v1,some (.lst i),some z2,v4,v5] S3:=by
 simp [law_v37_l2,e1,e2,e3]
theorem l92_1 (c:CLL) {sc nd zd z2 odd:D}{i:Nat}{jj r7:Int}{v4 w2 w3 w4 w5:Option D}{S S1 S2 S3 S4 S5 S6 S7 S8 S9:Store} (e1:c "_law_state" [sc,.int jj] S=.ok (.lst i) S1) (e2:c "_law_net" [.lst i,.int 4,.int 7,.int 16] S1=.ok nd S2) (e3:c "_law_net_text" [nd] S2=.ok zd S3) (e4:loopS [] (gN 4) (law_v37_l2 c) (upD 0 3) [some sc,some (.int jj),some (.lst i),some zd,w4,w5] S3=.nx [some sc,some (.int jj),some (.lst i),some z2,v4,w5] S4)
  (h5:S4++[O.lst [.str (Str.ofString "1 2:")]]=S5) (h6:S5++[O.dk []]=S6) (h7:S6++[O.lst [.non,.int 7,.tup [.int 0,.int 1],.lst S4.length,.bl true,.dct S5.length,.tup []]]=S7) (e8:c "_law_take" [.lst i,.int 7] S7=.ok (.int r7) S8) (ix:oIx (.lst S6.length) (.int r7) S8=.ok odd S8) (e9:c "_law_right" [odd,.non] S8=.ok (.bl true) S9) :
  law_v37_l1 c [some sc,some (.int jj),w2,w3,w4,w5] S=.nx [some sc,some (.int jj),some (.lst i),some z2,v4,some odd] S9:=by
 have hl:(upD 0 3).length<lim:=by rw [upD_len,lim_eq]; decide
 have h3:((3:Int).toNat)=3:=rfl
 simp [law_v37_l1,e1,e2,e3,h3,hl,e4,h5,h6,h7,e8,ix,e9]
noncomputable def bnd:Nat→Nat
 | 0=>120
 | n+1=>2*bnd n+7
theorem row92 (H:H92 cl) (n:Nat) (ns:List Int) {sc:D} (hsc:D.rol (ns.map D.int)=sc) (jj:Int) (hj:0≤jj) {S:Store} (tb:TB9 S) (w2 w3 w4 w5:Option D):∃ v2 v3 v4 v5 S',law_v37_l1 (cl (n+6)) [some sc,some (.int jj),w2,w3,w4,w5] S=.nx [some sc,some (.int jj),v2,v3,v4,v5] S'∧TB9 S':=by
 obtain ⟨S1,e1,x1,st1⟩:=state_spec H.d.st H.d.ce (n+4) ns jj hj S
 rw [hsc] at e1
 obtain ⟨i,hi⟩:∃ i,S.length=i:=⟨_,rfl⟩
 rw [hi] at e1 st1
 have tb1:=tb.ex x1
 obtain ⟨N,S2,e2,okN,k2,st2⟩:=net_spec H.d.ne H.d.en H.d.ta (n+3) st1 (ms:=4) (mp:=7) (mc:=16) (by decide) (by decide) (by decide)
 have tb2:=tb1.kp st1 k2
 obtain ⟨S3,e3,x3⟩:=law_net_text_spec H.nt (n+5) okN S2
 have st3:=st2.ex x3
 have tb3:=tb2.ex x3
 obtain ⟨ρ',S4,e4,z2,v4,rfl,st4,tb4,_,_⟩:=loop_inv (w:=[]) (g:=gN 4) (b:=law_v37_l2 (cl (n+6))) (items:=upD 0 3)
  (fun m ρ S'=>∃ z v4,ρ=[some sc,some (.int jj),some (.lst i),some (.str z),v4,w5]∧StOk S' i∧TB9 S'∧z.length≤bnd m∧Asc z) (ρ:=[some sc,some (.int jj),some (.lst i),some (.str (txN N)),w4,w5]) (S:=S3)
  (fun _ _ _ _=>okW_nil _) ⟨_,w4,rfl,st3,tb3,tx_120 okN,tx_asc okN⟩
  (fun m d ρ S' hd hp=>by
   obtain ⟨z,v4,rfl,st,tb',hz,ha⟩:=hp
   rw [upD_get] at hd
   obtain ⟨hm,rfl⟩:=hd
   have hb:bnd m≤900:=by
    have:m=0∨m=1∨m=2:=by omega
    rcases this with rfl | rfl | rfl <;> decide
   obtain ⟨dd,T1,g1,T2,g2,y2⟩:=right92 H n (z:=z) (by omega) ha tb'
   obtain ⟨z',T3,g3,lz,az,k3,st'⟩:=bent_spec H.be H.d.ta (n+4) hz hb ha (st.ex y2)
   exact ⟨_,_,rfl,_,T3,.inl (l92_2 _ g1 g2 g3),_,_,rfl,st',(tb'.ex y2).kp (st.ex y2) k3,lz,az⟩)
 obtain ⟨S5,h5⟩:∃ S5,S4++[O.lst [.str (Str.ofString "1 2:")]]=S5:=⟨_,rfl⟩
 obtain ⟨S6,h6⟩:∃ S6,S5++[O.dk []]=S6:=⟨_,rfl⟩
 obtain ⟨S7,h7⟩:∃ S7,S6++[O.lst [.non,.int 7,.tup [.int 0,.int 1],.lst S4.length,.bl true,.dct S5.length,.tup []]]=S7:=⟨_,rfl⟩
 have x5:Ex S4 S5:=h5▸ex_app _ _
 have x6:Ex S5 S6:=h6▸ex_app _ _
 have x7:Ex S6 S7:=h7▸ex_app _ _
 have x47:=(x5.trans x6).trans x7
 have st7:=st4.ex x47
 obtain ⟨r7,S8,e8,a8,b8,k8,n8,st8⟩:=take_spec H.d.ta (n+5) st7 (m:=7) (by decide) (by decide)
 have tb8:=(tb4.ex x47).kp st7 k8
 have ilt:=st4.lt
 have l5:=x5.le; have l6:=x6.le
 have lS5:lstAt S8 S4.length=some [.str (Str.ofString "1 2:")]:=k8.lst ((x6.trans x7).lst (by rw [← h5]; exact lstAt_new _ _) fun z=>z) (by omega)
 have dS6:S8[S5.length]?=some (.dk []):=k8.at (x7.at (by rw [← h6,List.getElem?_append_right (Nat.le_refl _)]; simp) fun z=>z) (by omega)
 have lS7:lstAt S8 S6.length=some [.non,.int 7,.tup [.int 0,.int 1],.lst S4.length,.bl true,.dct S5.length,.tup []]:=k8.lst (by rw [← h7]; exact lstAt_new _ _) (by omega)
 obtain ⟨odd,ix,hod⟩:∃ odd,oIx (.lst S6.length) (.int r7) S8=.ok odd S8∧fInst [odd,.ty "str"] S8=.ok (.bl false) S8:=by
  have e:=oIx_lst lS7 r7
  have hlst:fInst [.lst S4.length,.ty "str"] S8=.ok (.bl false) S8:=by
   show (match (if (lstAt S8 S4.length).isSome then some "list" else none) with | some t=>(if "str"∈["bool","int","tuple","list","str","dict"] then R.ok (D.bl (kOf t "str")) S8 else .bad) | none=>.bad)=_
   rw [lS5]; rfl
  have hdct:fInst [.dct S5.length,.ty "str"] S8=.ok (.bl false) S8:=by
   show (match dictK S8 S5.length with | some t=>(if "str"∈["bool","int","tuple","list","str","dict"] then R.ok (D.bl (kOf t "str")) S8 else .bad) | none=>.bad)=_
   unfold dictK
   rw [dS6]; rfl
  have:r7=((0:Nat):Int)∨r7=((1:Nat):Int)∨r7=((2:Nat):Int)∨r7=((3:Nat):Int)∨r7=((4:Nat):Int)∨r7=((5:Nat):Int)∨r7=((6:Nat):Int):=by omega
  rcases this with h | h | h | h | h | h | h <;> rw [h,atI_nat (v:=_) rfl] at e <;> rw [h]
  ·exact ⟨_,e,rfl⟩
  ·exact ⟨_,e,rfl⟩
  ·exact ⟨_,e,rfl⟩
  ·exact ⟨_,e,hlst⟩
  ·exact ⟨_,e,rfl⟩
  ·exact ⟨_,e,hdct⟩
  ·exact ⟨_,e,rfl⟩
 obtain ⟨S9,e9,x9⟩:=odd92 H n tb8 hod
 exact ⟨_,_,_,_,S9,l92_1 _ e1 e2 e3 e4 h5 h6 h7 e8 ix e9,tb8.ex x9⟩
theorem law92 (h:Hs_law_v37 cl) (H:H92 cl) (n:Nat) (ns:List Int):∃ S',cl (n+7) "law" [.rol (ns.map D.int)] [.tb lamD]=.ok (.bl true) S':=by
 rw [show n+7=(n+6)+1 from rfl,h]
 generalize hsc:D.rol (ns.map D.int)=sc
 have hm:∃ q:Int,(if (if (10:Int)<(ns.length:Int) then 10 else (ns.length:Int))>1 then (if (10:Int)<(ns.length:Int) then 10 else (ns.length:Int)) else 1)=q∧0≤q∧q≤10:=⟨_,rfl,by split <;> (try split) <;> omega,by split <;> (try split) <;> omega⟩
 obtain ⟨q,hq,q0,q6⟩:=hm
 obtain ⟨ρ',S1,e1,v1,v2,v3,v4,v5,rfl,_⟩:=loop_inv (w:=[]) (g:=gN 1) (b:=law_v37_l1 (cl (n+6))) (items:=upD 0 q.toNat)
  (fun j ρ S=>∃ v1 v2 v3 v4 v5,ρ=[some sc,v1,v2,v3,v4,v5]∧TB9 S) (ρ:=[some sc,none,none,none,none,none]) (S:=[.tb lamD])
  (fun j ρ S hp=>okW_nil _) ⟨none,none,none,none,none,rfl,rfl⟩
  (fun j d ρ S hd hp=>by
   obtain ⟨v1,v2,v3,v4,v5,rfl,tb⟩:=hp
   rw [upD_get] at hd
   obtain ⟨hj,rfl⟩:=hd
   obtain ⟨u2,u3,u4,u5,S2,e2,tb2⟩:=row92 H n ns hsc (0+(j:Int)) (by omega) tb v2 v3 v4 v5
   exact ⟨_,_,rfl,_,S2,.inl e2,_,_,_,_,_,rfl,tb2⟩)
 refine ⟨S1,run_rt rfl ?_⟩
 have f2:-4611686018427387904≤q∧q<4611686018427387904:=by omega
 rw [← hsc] at e1 ⊢
 simp [b_law_v37,startE,hq,f2,e1]
end My
set_option maxHeartbeats 4000000
namespace My
open PySem L2
noncomputable def tbl:Tbl:=[(("is_whole":Str),(1,1,b_is_whole)),
 (("is_bit":Str),(1,1,b_is_bit)),
 (("is_contact":Str),(3,3,b_is_contact)),
 (("is_net":Str),(1,4,b_is_net)),
 (("contact_text":Str),(1,5,b_contact_text)),
 (("net_text":Str),(1,3,b_net_text)),
 (("figure":Str),(1,1,b_figure)),
 (("has_lengths_of_net":Str),(1,1,b_has_lengths_of_net)),
 (("contact_read":Str),(1,1,b_contact_read)),
 (("net_read":Str),(1,3,b_net_read)),
 (("_law_cell_at":Str),(2,2,b_law_cell_at)),
 (("_law_state":Str),(2,3,b_law_state)),
 (("_law_take":Str),(2,4,b_law_take)),
 (("_law_ends":Str),(2,5,b_law_ends)),
 (("_law_net":Str),(4,13,b_law_net)),
 (("_law_net_text":Str),(1,6,b_law_net_text)),
 (("_law_contacts_in":Str),(2,8,b_law_contacts_in)),
 (("_law_due":Str),(1,3,b_law_due_v3)),
 (("_law_bent":Str),(2,9,b_law_bent_v9)),
 (("_law_right":Str),(2,2,b_law_right_v13)),
 (("law":Str),(1,6,b_law_v37))]
noncomputable def top (i:Nat):Stmt:=PySem.Challenge.pw_contactnets_k92_texts_that_write_none.main.body.getD i (.Pass ⟨0,0,0,0⟩)
theorem hk {f g:Nat→List D→M D} (h:f=g) (n:Nat):f n=g n:=congrFun h n
noncomputable abbrev s_is_whole:Stmt:=top 10
noncomputable abbrev s_is_bit:Stmt:=top 11
noncomputable abbrev s_is_contact:Stmt:=top 12
noncomputable abbrev s_is_net:Stmt:=top 13
noncomputable abbrev s_contact_text:Stmt:=top 16
noncomputable abbrev s_net_text:Stmt:=top 17
noncomputable abbrev s_figure:Stmt:=top 18
noncomputable abbrev s_has_lengths_of_net:Stmt:=top 19
noncomputable abbrev s_contact_read:Stmt:=top 20
noncomputable abbrev s_net_read:Stmt:=top 21
noncomputable abbrev s_law_cell_at:Stmt:=top 23
noncomputable abbrev s_law_state:Stmt:=top 24
noncomputable abbrev s_law_take:Stmt:=top 25
noncomputable abbrev s_law_ends:Stmt:=top 26
noncomputable abbrev s_law_net:Stmt:=top 27
noncomputable abbrev s_law_net_text:Stmt:=top 28
noncomputable abbrev s_law_contacts_in:Stmt:=top 31
noncomputable abbrev s_law_due:Stmt:=top 32
noncomputable abbrev s_law_bent:Stmt:=top 33
noncomputable abbrev s_law_right:Stmt:=top 34
noncomputable abbrev s_law:Stmt:=top 35
noncomputable abbrev s_law_refused:Stmt:=top 30
abbrev CKp (x:Str) (N:List Str) (st:Stmt) (b:CLL→CS):Prop:=(fun cl:CLL=>cSts (arT tbl) cl 60 ⟨N,(defScope st).names,some x⟩ (defBody st))=fun cl=>some (b cl)
theorem fk_is_whole:fnOk ["thing"] ["thing"] (defScope s_is_whole)=true:=by decide +kernel
theorem hs_is_whole:Hs_is_whole (callT tbl):=hk (by kernel_rfl)
theorem ck_is_whole:CKp "is_whole" ["thing"] s_is_whole b_is_whole:=by kernel_rfl
theorem fk_is_bit:fnOk ["thing"] ["thing"] (defScope s_is_bit)=true:=by decide +kernel
theorem hs_is_bit:Hs_is_bit (callT tbl):=hk (by kernel_rfl)
theorem ck_is_bit:CKp "is_bit" ["thing"] s_is_bit b_is_bit:=by kernel_rfl
theorem fk_is_contact:fnOk ["switches","places","thing"] ["switches","places","thing"] (defScope s_is_contact)=true:=by decide +kernel
theorem hs_is_contact:Hs_is_contact (callT tbl):=hk (by kernel_rfl)
theorem ck_is_contact:CKp "is_contact" ["switches","places","thing"] s_is_contact b_is_contact:=by kernel_rfl
theorem fk_is_net:fnOk ["thing","switches","places","contacts"] ["thing"] (defScope s_is_net)=true:=by decide +kernel
theorem hs_is_net:Hs_is_net (callT tbl):=hk (by kernel_rfl)
theorem ck_is_net:CKp "is_net" ["thing","switches","places","contacts"] s_is_net b_is_net:=by kernel_rfl
theorem fk_contact_text:fnOk ["contact","a","b","switch","sign"] ["contact"] (defScope s_contact_text)=true:=by decide +kernel
theorem hs_contact_text:Hs_contact_text (callT tbl):=hk (by kernel_rfl)
theorem ck_contact_text:CKp "contact_text" ["contact","a","b","switch","sign"] s_contact_text b_contact_text:=by kernel_rfl
theorem fk_net_text:fnOk ["net","switches","places"] ["net"] (defScope s_net_text)=true:=by decide +kernel
theorem hs_net_text:Hs_net_text (callT tbl):=hk (by kernel_rfl)
theorem ck_net_text:CKp "net_text" ["net","switches","places"] s_net_text b_net_text:=by kernel_rfl
theorem fk_figure:fnOk ["sign"] ["sign"] (defScope s_figure)=true:=by decide +kernel
theorem hs_figure:Hs_figure (callT tbl):=hk (by kernel_rfl)
theorem ck_figure:CKp "figure" ["sign"] s_figure b_figure:=by kernel_rfl
theorem fk_has_lengths_of_net:fnOk ["words"] ["words"] (defScope s_has_lengths_of_net)=true:=by decide +kernel
theorem hs_has_lengths_of_net:Hs_has_lengths_of_net (callT tbl):=hk (by kernel_rfl)
theorem ck_has_lengths_of_net:CKp "has_lengths_of_net" ["words"] s_has_lengths_of_net b_has_lengths_of_net:=by kernel_rfl
theorem fk_contact_read:fnOk ["word"] ["word"] (defScope s_contact_read)=true:=by decide +kernel
theorem hs_contact_read:Hs_contact_read (callT tbl):=hk (by kernel_rfl)
theorem ck_contact_read:CKp "contact_read" ["word"] s_contact_read b_contact_read:=by kernel_rfl
theorem fk_net_read:fnOk ["text","words","net"] ["text"] (defScope s_net_read)=true:=by decide +kernel
theorem hs_net_read:Hs_net_read (callT tbl):=hk (by kernel_rfl)
theorem ck_net_read:CKp "net_read" ["text","words","net"] s_net_read b_net_read:=by kernel_rfl
theorem fk_law_cell_at:fnOk ["_law_script","_law_k"] ["_law_script","_law_k"] (defScope s_law_cell_at)=true:=by decide +kernel
theorem hs_law_cell_at:Hs_law_cell_at (callT tbl):=hk (by kernel_rfl)
theorem ck_law_cell_at:CKp "_law_cell_at" ["_law_script","_law_k"] s_law_cell_at b_law_cell_at:=by kernel_rfl
theorem fk_law_state:fnOk ["_law_script","_law_k","_law_cell"] ["_law_script","_law_k"] (defScope s_law_state)=true:=by decide +kernel
theorem hs_law_state:Hs_law_state (callT tbl):=hk (by kernel_rfl)
theorem ck_law_state:CKp "_law_state" ["_law_script","_law_k","_law_cell"] s_law_state b_law_state:=by kernel_rfl
theorem fk_law_take:fnOk ["_law_state_here","_law_many","_law_found","_law_mixed"] ["_law_state_here","_law_many"] (defScope s_law_take)=true:=by decide +kernel
theorem hs_law_take:Hs_law_take (callT tbl):=hk (by kernel_rfl)
theorem ck_law_take:CKp "_law_take" ["_law_state_here","_law_many","_law_found","_law_mixed"] s_law_take b_law_take:=by kernel_rfl
theorem fk_law_ends:fnOk ["_law_state_here","_law_places","_law_row","_law_one","_law_other"] ["_law_state_here","_law_places"] (defScope s_law_ends)=true:=by decide +kernel
theorem hs_law_ends:Hs_law_ends (callT tbl):=hk (by kernel_rfl)
theorem ck_law_ends:CKp "_law_ends" ["_law_state_here","_law_places","_law_row","_law_one","_law_other"] s_law_ends b_law_ends:=by kernel_rfl
theorem fk_law_net:fnOk ["_law_state_here","_law_most_switches","_law_most_places","_law_most_contacts","_law_switches","_law_places","_law_rows","_law_row","_law_one","_law_other","_law_turn","_law_mixed","_law_contact"] ["_law_state_here","_law_most_switches","_law_most_places","_law_most_contacts"] (defScope s_law_net)=true:=by decide +kernel
theorem hs_law_net:Hs_law_net (callT tbl):=hk (by kernel_rfl)
theorem ck_law_net:CKp "_law_net" ["_law_state_here","_law_most_switches","_law_most_places","_law_most_contacts","_law_switches","_law_places","_law_rows","_law_row","_law_one","_law_other","_law_turn","_law_mixed","_law_contact"] s_law_net b_law_net:=by kernel_rfl
theorem fk_law_net_text:fnOk ["_law_net_here","_law_words","_law_a","_law_b","_law_switch","_law_on"] ["_law_net_here"] (defScope s_law_net_text)=true:=by decide +kernel
theorem hs_law_net_text:Hs_law_net_text (callT tbl):=hk (by kernel_rfl)
theorem ck_law_net_text:CKp "_law_net_text" ["_law_net_here","_law_words","_law_a","_law_b","_law_switch","_law_on"] s_law_net_text b_law_net_text:=by kernel_rfl
theorem fk_law_contacts_in:fnOk ["_law_switches","_law_places","_law_found","_law_a","_law_b","_law_switch","_law_on","_law_text"] ["_law_switches","_law_places"] (defScope s_law_contacts_in)=true:=by decide +kernel
theorem hs_law_contacts_in:Hs_law_contacts_in (callT tbl):=hk (by kernel_rfl)
theorem ck_law_contacts_in:CKp "_law_contacts_in" ["_law_switches","_law_places","_law_found","_law_a","_law_b","_law_switch","_law_on","_law_text"] s_law_contacts_in b_law_contacts_in:=by kernel_rfl
theorem fk_law_due:fnOk ["_law_text","_law_words","_law_known"] ["_law_text"] (defScope s_law_due)=true:=by decide +kernel
theorem hs_law_due:Hs_law_due_v3 (callT tbl):=hk (by kernel_rfl)
theorem ck_law_due:CKp "_law_due" ["_law_text","_law_words","_law_known"] s_law_due b_law_due_v3:=by kernel_rfl
theorem fk_law_bent:fnOk ["_law_state_here","_law_text","_law_kind","_law_at","_law_sign","_law_words","_law_k","_law_j","_law_some"] ["_law_state_here","_law_text"] (defScope s_law_bent)=true:=by decide +kernel
theorem hs_law_bent:Hs_law_bent_v9 (callT tbl):=hk (by kernel_rfl)
theorem ck_law_bent:CKp "_law_bent" ["_law_state_here","_law_text","_law_kind","_law_at","_law_sign","_law_words","_law_k","_law_j","_law_some"] s_law_bent b_law_bent_v9:=by kernel_rfl
theorem fk_law_right:fnOk ["_law_text","_law_due_here"] ["_law_text","_law_due_here"] (defScope s_law_right)=true:=by decide +kernel
theorem hs_law_right:Hs_law_right_v13 (callT tbl):=hk (by kernel_rfl)
theorem ck_law_right:CKp "_law_right" ["_law_text","_law_due_here"] s_law_right b_law_right_v13:=by kernel_rfl
theorem fk_law:fnOk ["_law_script","_law_k","_law_state_here","_law_text","_law_turn","_law_odd"] ["_law_script"] (defScope s_law)=true:=by decide +kernel
theorem hs_law:Hs_law_v37 (callT tbl):=hk (by kernel_rfl)
theorem ck_law:CKp "law" ["_law_script","_law_k","_law_state_here","_law_text","_law_turn","_law_odd"] s_law b_law_v37:=by kernel_rfl
theorem law_true (ns:List Int) (h:ns.length≤63):∃ S',callT tbl 40 "law" [.rol (ns.map D.int)] [.tb lamD]=.ok (.bl true) S':=law92 hs_law ⟨⟨hs_law_state,hs_law_cell_at,hs_law_take,hs_law_ends,hs_law_net⟩,⟨hs_figure,hs_has_lengths_of_net,hs_contact_read,hs_net_read,hs_net_text,hs_contact_text,hs_is_net,hs_is_contact,hs_is_bit,hs_is_whole⟩,hs_law_net_text,hs_law_contacts_in,hs_law_due,hs_law_bent,hs_law_right⟩ 33 ns
def DF (K:W.Frag) (n:Str) (st:Stmt):Prop:=∃ (f:Addr) (od an:Option Addr) (sl:Array (Option Value)) (oc kV dc pm cd ct:Value),W.nsIn K mainGlobals n=some (some (.ref f))∧K.lookup f=some ⟨oc,od,.func (W.fnOf n n (defArgs st) (defBody st) (defScope st) .none kV dc pm an cd ct),sl⟩∧W.codeIn K cd n=true∧W.keepIn K (.ref f)=true
theorem mkDF {K:W.Frag}{n:Str}{st:Stmt}{f:Addr}{od an:Option Addr}{sl:Array (Option Value)}{oc kV dc pm cd ct:Value} (a:W.nsIn K mainGlobals n=some (some (.ref f))) (l:K.lookup f=some ⟨oc,od,.func (W.fnOf n n (defArgs st) (defBody st) (defScope st) .none kV dc pm an cd ct),sl⟩) (c:W.codeIn K cd n=true) (k:W.keepIn K (.ref f)=true):DF K n st:=⟨f,od,an,sl,oc,kV,dc,pm,cd,ct,a,l,c,k⟩
theorem DF.in {K:W.Frag}{h:Heap}{mg:Str→Option Value}{n:Str}{st:Stmt} (d:DF K n st) (X:K.In h) (G:h.Ns mainGlobals mg):∃ (f:Addr) (kV dc pm:Value) (an:Option Addr) (cd ct:Value),mg n=some (.ref f)∧Fun K n n st f (W.fnOf n n (defArgs st) (defBody st) (defScope st) .none kV dc pm an cd ct):=by
 obtain ⟨f,od,an,sl,oc,kV,dc,pm,cd,ct,a,l,c,k⟩:=d
 exact ⟨f,kV,dc,pm,an,cd,ct,W.mg_of X G a,fun_mk l c k⟩
noncomputable def ZN (K:W.Frag):List Str→Prop
 | []=>True
 | x::r=>W.nsIn K mainGlobals x=some none∧ZN K r
theorem ZN.none {K:W.Frag}{h:Heap}{mg:Str→Option Value} (X:K.In h) (G:h.Ns mainGlobals mg):∀ {l:List Str},ZN K l→AllNone mg l
 | [],_=>True.intro
 | _::_,z=>⟨W.mg_none_of X G z.1,z.2.none X G⟩
noncomputable def txIn (K:W.Frag) (x z:Str):Bool:=match W.nsIn K mainGlobals x with
 | some (some (.str y _))=>decide (y=z)
 | _=>false
noncomputable def txAll (K:W.Frag):Bool:=txL.all (fun p=>txIn K p.1 p.2)
theorem txs_of {K:W.Frag}{h:Heap}{mg:Str→Option Value} (X:K.In h) (G:h.Ns mainGlobals mg) (a:txAll K=true) (x z:Str) (e:txL.lookup x=some z):∃ t,mg x=some (.str z t):=by
 have q:=List.all_eq_true.mp a _ (lookup_mem e)
 unfold txIn at q
 dsimp only at q
 split at q
 ·rename_i y t hy
  rw [of_decide_eq_true q] at hy
  exact ⟨t,W.mg_of X G hy⟩
 ·cases q
def BP (st:Stmt) (n:Str) (ps:List Str) (kV doc pm:Value) (an:Option Addr) (cdv ct:Value) (us:List Value):Prop:=bindArgs (W.fnOf n n (defArgs st) (defBody st) (defScope st) .none kV doc pm an cdv ct) ⟨us,[]⟩=pure (ps.zip us)
def BF (st:Stmt) (n:Str) (ps:List Str):Prop:=∀ (kV doc pm:Value) (an:Option Addr) (cdv ct:Value) (us:List Value),us.length=ps.length→BP st n ps kV doc pm an cdv ct us
theorem dIn {K:W.Frag}{h:Heap}{mg:Str→Option Value}{ar:Str→Option Nat}{x:Str}{st:Stmt}{N ps:List Str}{fuel np nN:Nat}{b:CLL→CS} (d:DF K x st) (X:K.In h) (G:h.Ns mainGlobals mg) (hb:BF st x ps) (hs:fnOk N ps (defScope st)=true)
  (hc:(fun cl:CLL=>cSts ar cl fuel ⟨N,(defScope st).names,some x⟩ (defBody st))=fun cl=>some (b cl)) (h1:ps.length=np:=by rfl) (h2:N.length=nN:=by rfl):DefIn K mg ar x (np,nN,b):=by
 obtain ⟨_,_,_,_,_,_,_,m,F⟩:=d.in X G
 exact def_in F m (F.binds (ps:=ps) hb) hs hc h1 h2
theorem usC {n:Nat}:∀ us:List Value,us.length=n+1→∃ a r,us=a::r∧r.length=n
 | a::r,h=>⟨a,r,rfl,Nat.succ.inj h⟩
theorem us0 {P:List Value→Prop} (h:P []) (us:List Value) (hl:us.length=0):P us:=by
 rw [List.eq_nil_of_length_eq_zero hl]; exact h
theorem us1 {P:List Value→Prop} (h:∀ a0:Value,P [a0]) (us:List Value) (hl:us.length=1):P us:=by
 obtain ⟨a,r,rfl,hq⟩:=usC us hl
 exact us0 (P:=fun r=>P (a::r)) (h a) r hq
theorem us2 {P:List Value→Prop} (h:∀ a0 a1:Value,P [a0,a1]) (us:List Value) (hl:us.length=2):P us:=by
 obtain ⟨a,r,rfl,hq⟩:=usC us hl
 exact us1 (P:=fun r=>P (a::r)) (h a) r hq
theorem us3 {P:List Value→Prop} (h:∀ a0 a1 a2:Value,P [a0,a1,a2]) (us:List Value) (hl:us.length=3):P us:=by
 obtain ⟨a,r,rfl,hq⟩:=usC us hl
 exact us2 (P:=fun r=>P (a::r)) (h a) r hq
theorem us4 {P:List Value→Prop} (h:∀ a0 a1 a2 a3:Value,P [a0,a1,a2,a3]) (us:List Value) (hl:us.length=4):P us:=by
 obtain ⟨a,r,rfl,hq⟩:=usC us hl
 exact us3 (P:=fun r=>P (a::r)) (h a) r hq
theorem bf_is_whole:BF s_is_whole "is_whole" ["thing"]:=fun kV doc pm an cdv ct=>us1 (P:=BP s_is_whole "is_whole" ["thing"] kV doc pm an cdv ct) (fun _=>rfl)
theorem bf_is_bit:BF s_is_bit "is_bit" ["thing"]:=fun kV doc pm an cdv ct=>us1 (P:=BP s_is_bit "is_bit" ["thing"] kV doc pm an cdv ct) (fun _=>rfl)
theorem bf_is_contact:BF s_is_contact "is_contact" ["switches","places","thing"]:=fun kV doc pm an cdv ct=>us3 (P:=BP s_is_contact "is_contact" ["switches","places","thing"] kV doc pm an cdv ct) (fun _ _ _=>rfl)
theorem bf_is_net:BF s_is_net "is_net" ["thing"]:=fun kV doc pm an cdv ct=>us1 (P:=BP s_is_net "is_net" ["thing"] kV doc pm an cdv ct) (fun _=>rfl)
theorem bf_contact_text:BF s_contact_text "contact_text" ["contact"]:=fun kV doc pm an cdv ct=>us1 (P:=BP s_contact_text "contact_text" ["contact"] kV doc pm an cdv ct) (fun _=>rfl)
theorem bf_net_text:BF s_net_text "net_text" ["net"]:=fun kV doc pm an cdv ct=>us1 (P:=BP s_net_text "net_text" ["net"] kV doc pm an cdv ct) (fun _=>rfl)
theorem bf_figure:BF s_figure "figure" ["sign"]:=fun kV doc pm an cdv ct=>us1 (P:=BP s_figure "figure" ["sign"] kV doc pm an cdv ct) (fun _=>rfl)
theorem bf_has_lengths_of_net:BF s_has_lengths_of_net "has_lengths_of_net" ["words"]:=fun kV doc pm an cdv ct=>us1 (P:=BP s_has_lengths_of_net "has_lengths_of_net" ["words"] kV doc pm an cdv ct) (fun _=>rfl)
theorem bf_contact_read:BF s_contact_read "contact_read" ["word"]:=fun kV doc pm an cdv ct=>us1 (P:=BP s_contact_read "contact_read" ["word"] kV doc pm an cdv ct) (fun _=>rfl)
theorem bf_net_read:BF s_net_read "net_read" ["text"]:=fun kV doc pm an cdv ct=>us1 (P:=BP s_net_read "net_read" ["text"] kV doc pm an cdv ct) (fun _=>rfl)
theorem bf_law_cell_at:BF s_law_cell_at "_law_cell_at" ["_law_script","_law_k"]:=fun kV doc pm an cdv ct=>us2 (P:=BP s_law_cell_at "_law_cell_at" ["_law_script","_law_k"] kV doc pm an cdv ct) (fun _ _=>rfl)
theorem bf_law_state:BF s_law_state "_law_state" ["_law_script","_law_k"]:=fun kV doc pm an cdv ct=>us2 (P:=BP s_law_state "_law_state" ["_law_script","_law_k"] kV doc pm an cdv ct) (fun _ _=>rfl)
theorem bf_law_take:BF s_law_take "_law_take" ["_law_state_here","_law_many"]:=fun kV doc pm an cdv ct=>us2 (P:=BP s_law_take "_law_take" ["_law_state_here","_law_many"] kV doc pm an cdv ct) (fun _ _=>rfl)
theorem bf_law_ends:BF s_law_ends "_law_ends" ["_law_state_here","_law_places"]:=fun kV doc pm an cdv ct=>us2 (P:=BP s_law_ends "_law_ends" ["_law_state_here","_law_places"] kV doc pm an cdv ct) (fun _ _=>rfl)
theorem bf_law_net:BF s_law_net "_law_net" ["_law_state_here","_law_most_switches","_law_most_places","_law_most_contacts"]:=fun kV doc pm an cdv ct=>us4 (P:=BP s_law_net "_law_net" ["_law_state_here","_law_most_switches","_law_most_places","_law_most_contacts"] kV doc pm an cdv ct) (fun _ _ _ _=>rfl)
theorem bf_law_net_text:BF s_law_net_text "_law_net_text" ["_law_net_here"]:=fun kV doc pm an cdv ct=>us1 (P:=BP s_law_net_text "_law_net_text" ["_law_net_here"] kV doc pm an cdv ct) (fun _=>rfl)
theorem bf_law_contacts_in:BF s_law_contacts_in "_law_contacts_in" ["_law_switches","_law_places"]:=fun kV doc pm an cdv ct=>us2 (P:=BP s_law_contacts_in "_law_contacts_in" ["_law_switches","_law_places"] kV doc pm an cdv ct) (fun _ _=>rfl)
theorem bf_law_due:BF s_law_due "_law_due" ["_law_text"]:=fun kV doc pm an cdv ct=>us1 (P:=BP s_law_due "_law_due" ["_law_text"] kV doc pm an cdv ct) (fun _=>rfl)
theorem bf_law_bent:BF s_law_bent "_law_bent" ["_law_state_here","_law_text"]:=fun kV doc pm an cdv ct=>us2 (P:=BP s_law_bent "_law_bent" ["_law_state_here","_law_text"] kV doc pm an cdv ct) (fun _ _=>rfl)
theorem bf_law_right:BF s_law_right "_law_right" ["_law_text","_law_due_here"]:=fun kV doc pm an cdv ct=>us2 (P:=BP s_law_right "_law_right" ["_law_text","_law_due_here"] kV doc pm an cdv ct) (fun _ _=>rfl)
theorem bf_law:BF s_law "law" ["_law_script"]:=fun kV doc pm an cdv ct=>us1 (P:=BP s_law "law" ["_law_script"] kV doc pm an cdv ct) (fun _=>rfl)
theorem bf_law_refused:BF s_law_refused "_law_refused" ["_law_call"]:=fun kV doc pm an cdv ct=>us1 (P:=BP s_law_refused "_law_refused" ["_law_call"] kV doc pm an cdv ct) (fun _=>rfl)
theorem fk_law_refused:fnOk ["_law_call","_law_error","e","_law_sorts"] ["_law_call"] (defScope s_law_refused)=true:=by decide +kernel
theorem ck_law_refused:cSts (fun _=>none) (fun _ _ _=>.bad) 60 ⟨["_law_call","_law_error","e","_law_sorts"],(defScope s_law_refused).names,some "_law_refused"⟩ ((defBody s_law_refused).drop 2)=some rfB:=by kernel_rfl
theorem all_mk {l:W.OpenLaw}{w:World}{K:W.Frag}{h:Heap}{mg:Str→Option Value}{fa c T C:Addr} (X:K.In h) (G:h.Ns mainGlobals mg) (hfa:mg "law"=some (.ref fa)) (tab:W.tabIn K lamD=some (c,T))
  (d1:DF K "is_whole" s_is_whole) (d2:DF K "is_bit" s_is_bit) (d3:DF K "is_contact" s_is_contact) (d4:DF K "is_net" s_is_net) (d5:DF K "contact_text" s_contact_text) (d6:DF K "net_text" s_net_text) (d7:DF K "figure" s_figure) (d8:DF K "has_lengths_of_net" s_has_lengths_of_net) (d9:DF K "contact_read" s_contact_read) (d10:DF K "net_read" s_net_read) (d11:DF K "_law_cell_at" s_law_cell_at) (d12:DF K "_law_state" s_law_state) (d13:DF K "_law_take" s_law_take) (d14:DF K "_law_ends" s_law_ends) (d15:DF K "_law_net" s_law_net) (d16:DF K "_law_net_text" s_law_net_text) (d17:DF K "_law_contacts_in" s_law_contacts_in) (d18:DF K "_law_due" s_law_due) (d19:DF K "_law_bent" s_law_bent) (d20:DF K "_law_right" s_law_right) (d21:DF K "law" s_law) (dt:DF K "_law_refused" s_law_refused) (z:ZN K bltL) (tx:txAll K=true) (xk:exAll K=true) (xs:exKs K=true) (xg:W.nsIn K mainGlobals "NetError"=some (some (.ref C))) (xn:exNet K C=true) (xv:W.nsIn K mainGlobals "ValueError"=some none)
  : ∃ fd:FuncData,(∀ (s:Shared) (v:Value),BindsTo s fd ⟨[v],[]⟩ [("_law_script",v)])∧∀ base:Heap,K.In base→base.Ns mainGlobals mg→W.CodeHd base c T→base.BuiltinsAt mg T→mainGlobals≠T→FnOk l.prog w K mg base (CX1 l.prog w) (3*40) fa fd ["_law_script"] (spL K):=by
 obtain ⟨_,kV,dc,pm,an,cd,ct,m,F⟩:=d21.in X G
 have e:=hfa.symm.trans m
 cases e
 have A:AllIn K mg (arT tbl) tbl:=And.intro (dIn d1 X G bf_is_whole fk_is_whole ck_is_whole) (And.intro (dIn d2 X G bf_is_bit fk_is_bit ck_is_bit) (And.intro (dIn d3 X G bf_is_contact fk_is_contact ck_is_contact) (And.intro (dIn d4 X G bf_is_net fk_is_net ck_is_net) (And.intro (dIn d5 X G bf_contact_text fk_contact_text ck_contact_text) (And.intro (dIn d6 X G bf_net_text fk_net_text ck_net_text) (And.intro (dIn d7 X G bf_figure fk_figure ck_figure) (And.intro (dIn d8 X G bf_has_lengths_of_net fk_has_lengths_of_net ck_has_lengths_of_net) (And.intro (dIn d9 X G bf_contact_read fk_contact_read ck_contact_read) (And.intro (dIn d10 X G bf_net_read fk_net_read ck_net_read) (And.intro (dIn d11 X G bf_law_cell_at fk_law_cell_at ck_law_cell_at) (And.intro (dIn d12 X G bf_law_state fk_law_state ck_law_state) (And.intro (dIn d13 X G bf_law_take fk_law_take ck_law_take) (And.intro (dIn d14 X G bf_law_ends fk_law_ends ck_law_ends) (And.intro (dIn d15 X G bf_law_net fk_law_net ck_law_net) (And.intro (dIn d16 X G bf_law_net_text fk_law_net_text ck_law_net_text) (And.intro (dIn d17 X G bf_law_contacts_in fk_law_contacts_in ck_law_contacts_in) (And.intro (dIn d18 X G bf_law_due fk_law_due ck_law_due) (And.intro (dIn d19 X G bf_law_bent fk_law_bent ck_law_bent) (And.intro (dIn d20 X G bf_law_right fk_law_right ck_law_right) (And.intro (dIn d21 X G bf_law fk_law ck_law) (True.intro)))))))))))))))))))))
 obtain ⟨_,_,_,_,_,_,_,mt,Ft⟩:=dt.in X G
 have hR:∀ base,RefH l.prog w K mg base:=fun base=>refH_of (c := "_law_call") (y := "_law_error") (en := "e") (g := "NetError") (more:=["_law_sorts"]) X G Ft mt (Ft.binds (ps:=["_law_call"]) bf_law_refused) rfl fk_law_refused rfl (by decide +kernel) (by decide +kernel) xg (by decide +kernel) xk xs xn xv ⟨fun y hy _=>(z.none X G).mem y hy,txs_of X G tx⟩ ck_law_refused
 refine ⟨W.fnOf "law" "law" (defArgs s_law) (defBody s_law) (defScope s_law) .none kV dc pm an cd ct,fun s v=>.of_eq rfl,fun base kb nb hc hb hne=>?_⟩
 exact law_ok (L:=39) (fun x p e=>A.look x p e) ⟨fun y hy _=>(z.none X G).mem y hy,txs_of X G tx⟩ (exKs_of X G xs) (lamF_of kb nb tab hc hb hne) (fun t ws ht=>by unfold tkL at ht; cases ht) m (hR base) (by kernel_rfl) F fk_law rfl (fun cl=>congrFun ck_law cl) (fun ns h=>law_true ns h)
end My
open PySem PySem.W PyProof.Rows
theorem PySem.W.Fast.tw14555233588319696241:True:=trivial
theorem PySem.W.Fast.tw14791310524563438113:True:=trivial
theorem PySem.W.Fast.tw4918291309592296914:True:=trivial
theorem PySem.W.Fast.tw6093138791257399004:True:=trivial
theorem PySem.W.Fast.tw14394005291791994401:True:=trivial
theorem PySem.W.Fast.tw4752503655736261376:True:=trivial
theorem PySem.W.Fast.tw1656705534162265680:True:=trivial
theorem PySem.W.Fast.tw3709704209570330455:True:=trivial
theorem PySem.W.Fast.tw10274549145736939521:True:=trivial
theorem PySem.W.Fast.tw2194751783207429719:True:=trivial
theorem PySem.W.Fast.tw6939551497076813831:True:=trivial
theorem PySem.W.Fast.tw12261151202673558517:True:=trivial
theorem PySem.W.Fast.tw11115839037274199314:True:=trivial
theorem PySem.W.Fast.tw17769223656037360888:True:=trivial
theorem PySem.W.Fast.tw17675533298514924946:True:=trivial
theorem PySem.W.Fast.tw11523974244052136902:True:=trivial
theorem PySem.W.Fast.tw7046912104996549388:True:=trivial
theorem PySem.W.Fast.tw1388460831404694891:True:=trivial
theorem PySem.W.Fast.tw1393125736908915881:True:=trivial
theorem PySem.W.Fast.tw14159392158607591294:True:=trivial
theorem PySem.W.Fast.tw16526336706168718616:True:=trivial
theorem PySem.W.Fast.tw3839904472036510840:True:=trivial
theorem PySem.W.Fast.tw10211256301560520586:True:=trivial
theorem PySem.W.Fast.tw8221318632769892332:True:=trivial
theorem PySem.W.Fast.tw1426751656780307969:True:=trivial
theorem PySem.W.Fast.tw1399086960244532901:True:=trivial
theorem PySem.W.Fast.tw15157052873249234785:True:=trivial
theorem PySem.W.Fast.tw15409047361858942449:True:=trivial
theorem PySem.W.Fast.tw407609769161342258:True:=trivial
theorem PySem.W.Fast.tw7595417205234163776:True:=trivial
theorem PySem.W.Fast.tw973973403321163875:True:=trivial
theorem PySem.W.Fast.tw12234650387716570741:True:=trivial
theorem PySem.W.Fast.tw747797995171696000:True:=trivial
theorem PySem.W.Fast.tw9291003557242875447:True:=trivial
theorem PySem.W.Fast.tw5343156568434244534:True:=trivial
theorem PySem.W.Fast.tw14773396884762192651:True:=trivial
theorem PySem.W.Fast.tw16612952709302251245:True:=trivial
theorem PySem.W.Fast.tw9054512879334526467:True:=trivial
theorem PySem.W.Fast.tw3900869631178634383:True:=trivial
theorem PySem.W.Fast.tw17793759238095083481:True:=trivial
set_option maxRecDepth 100000 in
set_option maxHeartbeats 0 in
theorem PySem.Challenge.cw_contactnets_k92_texts_that_write_none_holds : PySem.Challenge.rw_contactnets_k92_texts_that_write_none.Holds := by
 w_on; o_law; k_head; (case hw=>w_witness2)
 k_fill
 refine L2.walk_evS (L:=3*40) (l:=PySem.Challenge.rw_contactnets_k92_texts_that_write_none) rfl rfl ⟨rfl,by decide,by decide,rfl⟩ (fun w h Y=>PySem.W.km_in_of Y) ?R ?T ?F
 case R=>decide +kernel
 case T =>
  intro w
  kernel_rfl
 case F =>
  intro w mg fa c T h KX G hmg tab
  refine' My.all_mk KX G hmg tab (My.mkDF ?a1 ?l1 ?c1 ?k1) (My.mkDF ?a2 ?l2 ?c2 ?k2) (My.mkDF ?a3 ?l3 ?c3 ?k3) (My.mkDF ?a4 ?l4 ?c4 ?k4) (My.mkDF ?a5 ?l5 ?c5 ?k5) (My.mkDF ?a6 ?l6 ?c6 ?k6) (My.mkDF ?a7 ?l7 ?c7 ?k7) (My.mkDF ?a8 ?l8 ?c8 ?k8) (My.mkDF ?a9 ?l9 ?c9 ?k9) (My.mkDF ?a10 ?l10 ?c10 ?k10) (My.mkDF ?a11 ?l11 ?c11 ?k11) (My.mkDF ?a12 ?l12 ?c12 ?k12) (My.mkDF ?a13 ?l13 ?c13 ?k13) (My.mkDF ?a14 ?l14 ?c14 ?k14) (My.mkDF ?a15 ?l15 ?c15 ?k15) (My.mkDF ?a16 ?l16 ?c16 ?k16) (My.mkDF ?a17 ?l17 ?c17 ?k17) (My.mkDF ?a18 ?l18 ?c18 ?k18) (My.mkDF ?a19 ?l19 ?c19 ?k19) (My.mkDF ?a20 ?l20 ?c20 ?k20) (My.mkDF ?a21 ?l21 ?c21 ?k21) (My.mkDF ?ta ?tl ?tc ?tk) ⟨?z1,?z2,?z3,?z4,?z5,?z6,?z7,?z8,?z9,?z10,?z11,?z12,?z13,?z14,?z15,?z16,?z17,?z18,?z19,?z20,True.intro⟩ ?tx ?xk ?xs ?xg ?xn ?xv
  case a1=>k_is
  case l1=>k_is
  case c1=>k_is
  case k1=>k_is
  case a2=>k_is
  case l2=>k_is
  case c2=>k_is
  case k2=>k_is
  case a3=>k_is
  case l3=>k_is
  case c3=>k_is
  case k3=>k_is
  case a4=>k_is
  case l4=>k_is
  case c4=>k_is
  case k4=>k_is
  case a5=>k_is
  case l5=>k_is
  case c5=>k_is
  case k5=>k_is
  case a6=>k_is
  case l6=>k_is
  case c6=>k_is
  case k6=>k_is
  case a7=>k_is
  case l7=>k_is
  case c7=>k_is
  case k7=>k_is
  case a8=>k_is
  case l8=>k_is
  case c8=>k_is
  case k8=>k_is
  case a9=>k_is
  case l9=>k_is
  case c9=>k_is
  case k9=>k_is
  case a10=>k_is
  case l10=>k_is
  case c10=>k_is
  case k10=>k_is
  case a11=>k_is
  case l11=>k_is
  case c11=>k_is
  case k11=>k_is
  case a12=>k_is
  case l12=>k_is
  case c12=>k_is
  case k12=>k_is
  case a13=>k_is
  case l13=>k_is
  case c13=>k_is
  case k13=>k_is
  case a14=>k_is
  case l14=>k_is
  case c14=>k_is
  case k14=>k_is
  case a15=>k_is
  case l15=>k_is
  case c15=>k_is
  case k15=>k_is
  case a16=>k_is
  case l16=>k_is
  case c16=>k_is
  case k16=>k_is
  case a17=>k_is
  case l17=>k_is
  case c17=>k_is
  case k17=>k_is
  case a18=>k_is
  case l18=>k_is
  case c18=>k_is
  case k18=>k_is
  case a19=>k_is
  case l19=>k_is
  case c19=>k_is
  case k19=>k_is
  case a20=>k_is
  case l20=>k_is
  case c20=>k_is
  case k20=>k_is
  case a21=>k_is
  case l21=>k_is
  case c21=>k_is
  case k21=>k_is
  case ta=>k_is
  case tl=>k_is
  case tc=>k_is
  case tk=>k_is
  case z1=>k_is
  case z2=>k_is
  case z3=>k_is
  case z4=>k_is
  case z5=>k_is
  case z6=>k_is
  case z7=>k_is
  case z8=>k_is
  case z9=>k_is
  case z10=>k_is
  case z11=>k_is
  case z12=>k_is
  case z13=>k_is
  case z14=>k_is
  case z15=>k_is
  case z16=>k_is
  case z17=>k_is
  case z18=>k_is
  case z19=>k_is
  case z20=>k_is
  case tx=>kernel_rfl
  case xg=>k_is
  case xv=>k_is
  case xk=>kernel_rfl
  case xs=>kernel_rfl
  case xn=>kernel_rfl
