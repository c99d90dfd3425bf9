import PyProof.Rows.All
import Wide.All
import OpenK.AllK
import Wide.FinOn
import Lean
import PyProof.EqAt
import PyProof.EqKinds
import PyProof.TupleCall
import PyProof.NeKinds
import PyProof.EnumMake
import PyProof.Draws
import PyProof.P3Eq
import PyProof.NeData
import PyProof.ReprRoads
import PyProof.CallFns
import PyProof.SliceSyntax
import PyProof.AutoIntG2
import PyProof.SumWalk
import PyProof.ConsumeWalk
import PyProof.Rows.TupIter
import PyProof.DictRoadsH
import PyProof.DictWalks
import KE.KDictList
import KE.KSortTup
import KE.KDictLaws
import PyProof.TupleOfSeq
import PyProof.ListRange
import PyProof.DictUpdate
import PyProof.AttrMissHeap
import KE.KIntText
import PyProof.RaisesMany
import OpenK.KOwn
import PyProof.ExcClass2
import PyProof.ExcBaseAll.ValueError
import KE.KLam
import KE.KTryMore
import PyProof.ExcArgsOwn
import PyProof.ExcAttrAll.ValueError
import KE.KIsAll
import PyProof.NsDelKeeps
import KE.KNest
import PyProof.StrWalks
import PyProof.StrBlock2
import PyProof.Rows.SortStr
import PySem.Challenge.RW_contactnets_k94_desk_refuses
set_option Elab.async false
set_option linter.all false
set_option genSizeOf false
set_option maxRecDepth 100000
set_option maxHeartbeats 1000000
namespace L2
open PySem PySem.Spec PyProof.Rows
noncomputable abbrev Key:=Sum Int Str
noncomputable def zGT:Key→Value→Bool
 | .inl k,v=>Value.isInt k v
 | .inr x,v=>Value.isStrOf x v
noncomputable def keyH (w:World):Key→Int
 | .inl k=>hashInt k
 | .inr x=>hashStr w x
theorem zAi:∀ {k:Key}{v:Value},zGT k v=true→(∃ i t,k=Sum.inl i∧v=Value.int i t)∨(∃ x t,k=Sum.inr x∧v=Value.str x t)
 | .inl i,v,h=>by
  obtain ⟨t,e⟩:=Value.isInt_shape h
  exact .inl ⟨i,t,rfl,e⟩
 | .inr x,v,h=>by
  obtain ⟨t,e⟩:=Value.isStrOf_shape h
  exact .inr ⟨x,t,rfl,e⟩
theorem zLy (i:Int) (t:Tok):zGT (.inl i) (.int i t)=true:=by simp [zGT,Value.isInt]
theorem zLx (x:Str) (t:Tok):zGT (.inr x) (.str x t)=true:=by simp [zGT,Value.isStrOf]
theorem key_ll (a b:Int):decide ((Sum.inl a:Key)=Sum.inl b)=(a == b):=by grind
theorem key_rr (a b:Str):decide ((Sum.inr a:Key)=Sum.inr b)=decide (a=b):=by simp_all
theorem key_lr (a:Int) (b:Str):decide ((Sum.inl a:Key)=Sum.inr b)=false:=rfl
theorem key_rl (a:Str) (b:Int):decide ((Sum.inr a:Key)=Sum.inl b)=false:=rfl
noncomputable def zA8 (prog:Program) (w:World):PySem.KeyKind prog w Key where
 is:=zGT
 hash:=keyH w
 inj:=fun v a b ha hb=>by
  rcases zAi ha with ⟨i,t,rfl,rfl⟩ | ⟨x,t,rfl,rfl⟩
  ·rcases zAi hb with ⟨j,u,rfl,e⟩ | ⟨y,u,rfl,e⟩
   ·injection e with e1 _; rw [e1]
   ·exact nomatch e
  ·rcases zAi hb with ⟨j,u,rfl,e⟩ | ⟨y,u,rfl,e⟩
   ·exact nomatch e
   ·injection e with e1 _; rw [e1]
 byValue:=fun k v h=>by
  rcases zAi h with ⟨i,t,rfl,rfl⟩ | ⟨x,t,rfl,rfl⟩ <;> rfl
 pyHash:=fun hv h=>by
  rcases zAi hv with ⟨i,t,rfl,rfl⟩ | ⟨x,t,rfl,rfl⟩
  ·exact wpAny_pyHash_int h
  ·exact wpAny_pyHash_str h
 eqBool:=fun hu hv h=>by
  rcases zAi hu with ⟨i,t,rfl,rfl⟩ | ⟨x,t,rfl,rfl⟩
  ·rcases zAi hv with ⟨j,u,rfl,rfl⟩ | ⟨y,u,rfl,rfl⟩
   ·rw [key_ll] at h; exact wpAny_eqBool_int h
   ·rw [key_lr] at h; exact SeqAt.EqAt.int_str i t y u _ _ _ _ h
  ·rcases zAi hv with ⟨j,u,rfl,rfl⟩ | ⟨y,u,rfl,rfl⟩
   ·rw [key_rl] at h; exact SeqAt.EqAt.str_int x t j u _ _ _ _ h
   ·rw [key_rr] at h; exact wpAny_eqBool_str h
 «strs»:=fun k x t v h=>by
  rcases zAi h with ⟨i,u,rfl,e⟩ | ⟨y,u,rfl,e⟩
  ·exact nomatch e
  ·injection e with e1 _
   subst e1
   cases v <;> rfl
theorem zHZ (prog:Program) (w:World) (i:Int) (t:Tok):(zA8 prog w).is (.inl i) (.int i t)=true:=zLy i t
theorem zCw (prog:Program) (w:World) (x:Str) (t:Tok):(zA8 prog w).is (.inr x) (.str x t)=true:=zLx x t
inductive V where
 | non | bl (b:Bool) | int (i:Int) | str (x:Str) | byt (b:Array UInt8) | flt (b:UInt64) | ref (a:Addr) | ty (n:String)
 deriving DecidableEq
noncomputable def RelV:V→Value→Prop
 | .non,u=>u=Value.none
 | .bl b,u=>u=Value.bool b
 | .int i,u=>∃ t,u=Value.int i t
 | .str x,u=>∃ t,u=Value.str x t
 | .byt b,u=>∃ t,u=Value.bytes b t
 | .flt b,u=>∃ t,u=Value.float b t
 | .ref a,u=>u=Value.ref a
 | .ty n,u=>u=Value.type n
noncomputable abbrev Vals:List V→List Value→Prop:=Paired RelV
theorem Vals.length {xs:List V}{us:List Value} (r:Vals xs us):xs.length=us.length:=Paired.length r
theorem Vals.get:∀ {xs:List V}{us:List Value}{i:Nat}{x:V},Vals xs us→xs[i]?=some x→∃ u,us[i]?=some u∧RelV x u
 | _,_,_,_,.nil,e=>by simp at e
 | _,_,0,_,.cons r _,e=>by simp at e; subst e; exact ⟨_,rfl,r⟩
 | _,_,i+1,x,.cons _ t,e=>by
  obtain ⟨u,h1,h2⟩:=Vals.get t (by simpa using e)
  exact ⟨u,by simpa using h1,h2⟩
theorem Vals.set {x:V}{u:Value} (r:RelV x u):∀ {xs:List V}{us:List Value} (i:Nat),Vals xs us→Vals (xs.set i x) (us.set i u)
 | _,_,_,.nil=>.nil
 | _,_,0,.cons _ t=>.cons r t
 | _,_,i+1,.cons q t=>.cons q (Vals.set r i t)
theorem Vals.append:∀ {xs ys:List V}{us ws:List Value},Vals xs us→Vals ys ws→Vals (xs++ys) (us++ws)
 | _,_,_,_,.nil,s=>s
 | _,_,_,_,.cons r t,s=>.cons r (Vals.append t s)
theorem Vals.take:∀ {xs:List V}{us:List Value} (n:Nat),Vals xs us→Vals (xs.take n) (us.take n)
 | _,_,0,_=>.nil
 | _,_,_+1,.nil=>.nil
 | _,_,n+1,.cons r t=>.cons r (Vals.take n t)
theorem Vals.drop:∀ {xs:List V}{us:List Value} (n:Nat),Vals xs us→Vals (xs.drop n) (us.drop n)
 | _,_,0,r=>r
 | _,_,_+1,.nil=>.nil
 | _,_,n+1,.cons _ t=>Vals.drop n t
noncomputable def RelO:Option V→Option Value→Prop
 | some v,some u=>RelV v u
 | none,none=>True
 | _,_=>False
noncomputable def KV {κ:Type}:List (κ × V)→List (κ × Value)→Prop:=Paired fun (p:κ × V) (q:κ × Value)=>p.1=q.1∧RelV p.2 q.2
noncomputable def kV:Key→V
 | .inl i=>.int i
 | .inr x=>.str x
inductive HO where
 /-- a list -/
 | lst (xs:List V)
 /-- a tuple (never changes) -/
 | tup (xs:List V)
 /-- a dict whose keys are ints and texts; one whose keys are tuples of ints and texts (the empty one is both) -/
 | dK (kvs:List (Key × V)) | dT (kvs:List (List Key × V))
 /-- a set of ints: its members,its size -/
 | set (S:Int→Bool) (n:Nat)
 /-- an instance of the class at C,its dict at dx,its attributes -/
 | ins (C dx:Addr) (fs:List (Str × V))
 /-- the dict of the instance at x -/
 | own (x:Addr)
 /-- the dict of an exception -/
 | xd (fs:List (Str × V))
 /-- a bound method,f of x -/
 | met (f x:Addr)
 /-- a range object lo,lo+1,.. below hi -/
 | rng (lo hi:Int)
 /-- a thing that is known to the object (the script; a dict while a loop walks it): read,never written while it is so -/
 | frz (o:Obj) (u:HO)
 /-- a code object's table -/
 | tbl (ps:Array Value)
 /-- any other thing,by what is true of its one object (a def of one's own: SetO a S n:=HO.ext fun h=>..) -/
 | ext (φ:Heap→Prop)
noncomputable abbrev Hp:=Addr→Option HO
noncomputable def upd (H:Hp) (a:Addr) (o:HO):Hp:=fun b=>if b=a then some o else H b
theorem zA4 {H:Hp}{a:Addr}{o:HO}:upd H a o a=some o:=by unfold upd; rw [if_pos rfl]
theorem zA5 {H:Hp}{a b:Addr}{o:HO} (h:b≠a):upd H a o b=H b:=by unfold upd; rw [if_neg h]
theorem zKn {H:Hp}{a:Addr}{o u:HO}:upd (upd H a o) a u=upd H a u:=by
 funext b; unfold upd; split <;> rfl
theorem ne_of {H:Hp}{a b:Addr}{o u:HO} (h:H a=some o) (h':H b=some u) (d:o≠u):a≠b:=by grind
theorem zAm {H:Hp}{a b:Addr}{o:HO} (h:H a=some o) (h':H b=none):a≠b:=by grind
section
variable (P:Program) (w:World)
noncomputable def zAV (H:Hp) (h:Heap) (a:Addr):HO→Prop
 | .lst xs=>xs.length≤sizeLine∧∃ (its:List Value) (n:Nat),Vals xs its∧h.get? a=some { cls:=.type "list",data:=.seq its.toArray n }
 | .tup xs=>xs.length≤sizeLine∧∃ its:List Value,Vals xs its∧IsTup h a its.toArray
 | .dK kvs=>kvs.length≤sizeLine∧(a == sysModules)=false∧∃ vs,KV kvs vs∧h.DictOf (zA8 P w) a vs
 | .dT kvs=>kvs.length≤sizeLine∧(a == sysModules)=false∧∃ xs:List (List Key × Addr × Value),
   Paired (fun (p:List Key × V) (q:List Key × Addr × Value)=>p.1=q.1∧H q.2.1=some (.tup (p.1.map kV))∧RelV p.2 q.2.2) kvs xs ∧
   ∃ o es ep,h.get? a=some o∧o.ExactDict∧o.data=.dict es ep∧es.toList=xs.map (entryOfKey (tupleKind (zA8 P w)))∧(xs.map (·.1)).Nodup
 | .set S n=>h.SetOf (intKind P w) a S n
 | .ins C dx fs=>H dx=some (.own a)∧fs.length≤1000∧dx≠a∧h.get? a=some (W.instObj C dx) ∧
   ∃ mA,h.Ns1 dx mA∧(∀ f,RelO (fs.lookup f) (mA f))∧PySem.Within mA (fs.map (·.1))
 | .own _=>∃ o,h.get? a=some o
 | .xd fs=>∃ mA,h.Ns1 a mA∧∀ f,RelO (fs.lookup f) (mA f)
 | .rng lo hi=>∃ t u v,h.get? a=some { cls:=.type "range",data:=.fields #[.int lo t,.int hi u,.int 1 v] }
 | .frz o u=>h.get? a=some o∧zAV H h a u
 | .tbl ps=>h.get? a=some { cls:=.none,data:=.fields ps }
 | .met f x=>h.get? a=some (W.methodObj (.ref f) (.ref x))
 | .ext φ=>φ h∧(∃ o,h.get? a=some o)∧∀ h1 h2:Heap,φ h1→(∀ o,h1.get? a=some o→h2.get? a=some o)→φ h2
def HOk (H:Hp) (h:Heap):Prop:=∀ a o,H a=some o→zAV P w H h a o
end
section
variable {P:Program}{w:World}{H H':Hp}{h h':Heap}{a:Addr}{o:HO}
theorem zAV.lt (x:zAV P w H h a o):a<h.objs.size:=by
 cases o with
 | lst xs=>obtain ⟨_,_,_,_,e⟩:=x; exact Heap.lt_size e
 | tup xs=>obtain ⟨_,_,_,p⟩:=x; exact p.lt
 | dK kvs=>obtain ⟨_,_,_,_,o,_,_,e,_⟩:=x; exact Heap.lt_size e
 | dT kvs=>obtain ⟨_,_,_,_,o,_,_,e,_⟩:=x; exact Heap.lt_size e
 | set S n=>obtain ⟨o,_,_,_,e,_⟩:=x; exact Heap.lt_size e
 | ins C dx fs=>obtain ⟨_,_,_,e,_⟩:=x; exact Heap.lt_size e
 | own y=>obtain ⟨_,e⟩:=x; exact Heap.lt_size e
 | xd fs=>obtain ⟨_,⟨_,_,_,e,_⟩,_⟩:=x; exact Heap.lt_size e
 | rng lo hi=>obtain ⟨_,_,_,e⟩:=x; exact Heap.lt_size e
 | frz ob u=>obtain ⟨e,_⟩:=x; exact Heap.lt_size e
 | tbl ps=>exact Heap.lt_size (x)
 | met f y=>exact Heap.lt_size (x)
 | ext φ=>obtain ⟨_,⟨_,e⟩,_⟩:=x; exact Heap.lt_size e
theorem Paired.mapP {α β:Type}{F G:α→β→Prop}:∀ {l₁:List α}{l₂:List β},Paired F l₁ l₂→(∀ a b,F a b→G a b)→Paired G l₁ l₂
 | _,_,.nil,_=>.nil
 | _,_,.cons r t,f=>.cons (f _ _ r) (Paired.mapP t f)
theorem zAV.stay (x:zAV P w H h a o) (k:∀ b u,(b=a∨H b=some (.own a))→h.get? b=some u→h'.get? b=some u)
  (ho:∀ b,H b=some (.own a)→H' b=some (.own a)) (ht:∀ b xs,H b=some (.tup xs)→H' b=some (.tup xs)):zAV P w H' h' a o:=by
 induction o with
 | lst xs=>obtain ⟨z,its,n,r,e⟩:=x; exact ⟨z,its,n,r,k _ _ (.inl rfl) e⟩
 | tup xs=>obtain ⟨z,its,r,ob,e,c⟩:=x; exact ⟨z,its,r,ob,k _ _ (.inl rfl) e,c⟩
 | dK kvs=>obtain ⟨z,y,vs,r,ob,es,ep,e,c⟩:=x; exact ⟨z,y,vs,r,ob,es,ep,k _ _ (.inl rfl) e,c⟩
 | dT kvs =>
  obtain ⟨z,y,xs,r,ob,es,ep,e,c⟩:=x
  exact ⟨z,y,xs,Paired.mapP r fun p q z=>⟨z.1,ht _ _ z.2.1,z.2.2⟩,ob,es,ep,k _ _ (.inl rfl) e,c⟩
 | set S n=>obtain ⟨ob,es,ep,t,e,c⟩:=x; exact ⟨ob,es,ep,t,k _ _ (.inl rfl) e,c⟩
 | ins C dx fs =>
  obtain ⟨d,z,ne,e,mA,⟨od,es,ep,e2,c⟩,r⟩:=x
  exact ⟨ho _ d,z,ne,k _ _ (.inl rfl) e,mA,⟨od,es,ep,k _ _ (.inr d) e2,c⟩,r⟩
 | own y=>obtain ⟨ob,e⟩:=x; exact ⟨ob,k _ _ (.inl rfl) e⟩
 | xd fs=>obtain ⟨mA,⟨od,es,ep,e,c⟩,r⟩:=x; exact ⟨mA,⟨od,es,ep,k _ _ (.inl rfl) e,c⟩,r⟩
 | rng lo hi=>obtain ⟨t,u,v,e⟩:=x; exact ⟨t,u,v,k _ _ (.inl rfl) e⟩
 | frz ob u ih=>obtain ⟨e,q⟩:=x; exact ⟨k _ _ (.inl rfl) e,ih q⟩
 | tbl ps =>
  have e:=x
  exact k a _ (.inl rfl) e
 | met f y =>
  have e:=x
  exact k a _ (.inl rfl) e
 | ext φ=>obtain ⟨p,⟨o,e⟩,st⟩:=x; exact ⟨st _ _ p fun o q=>k _ _ (.inl rfl) q,⟨o,k _ _ (.inl rfl) e⟩,st⟩
theorem HOk.lt (x:HOk P w H h) (e:H a=some o):a<h.objs.size:=(x a o e).lt
theorem HOk.fresh (x:HOk P w H h) (e:h.objs.size≤a):H a=none:=by
 cases q:H a with
 | none=>rfl
 | some u=>exact absurd (Nat.lt_of_lt_of_le (x.lt q) e) (Nat.lt_irrefl _)
theorem HOk.kept (x:HOk P w H h) (k:∀ b u,h.get? b=some u→h'.get? b=some u):HOk P w H h':=fun a o e =>
 (x a o e).stay (fun b u _ q=>k b u q) (fun _ q=>q) fun _ _ q=>q
theorem HOk.laid (x:HOk P w H h) (k:∀ b u,h.get? b=some u→h'.get? b=some u) (hp:h.objs.size≤a) (new:zAV P w (upd H a o) h' a o):HOk P w (upd H a o) h':=fun b u e=>by
 have hn:=x.fresh hp
 by_cases hb:b=a
 ·subst hb; rw [zA4] at e; cases e; exact new
 ·rw [zA5 hb] at e
  exact (x b u e).stay (fun c v _ q=>k c v q) (fun c q=>by rw [zA5 (zAm q hn)]; exact q) fun c xs q=>by rw [zA5 (zAm q hn)]; exact q
end
def Rd (H:Hp) (a:Addr) (u:HO):Prop:=H a=some u∨∃ o,H a=some (.frz o u)
theorem Rd.ok {P:Program}{w:World}{H:Hp}{h:Heap}{a:Addr}{u:HO} (r:Rd H a u) (x:HOk P w H h):zAV P w H h a u:=by
 rcases r with r | ⟨o,r⟩
 ·exact x a u r
 ·obtain ⟨_,q⟩:=x a _ r
  exact q
noncomputable def Mut:Option HO→Prop
 | some (.lst _)=>True
 | some (.dK _)=>True
 | some (.dT _)=>True
 | some (.set _ _)=>True
 | some (.ins _ _ _)=>True
 | some (.ext _)=>True
 | _=>False
section
variable {P:Program}{w:World}{H:Hp}{h h':Heap}{x e:Addr}{o':HO}
theorem HOk.write (ok:HOk P w H h) (mu:Mut (H x)) (he:e=x∨H e=some (.own x)) (k:∀ b u,b≠e→h.get? b=some u→h'.get? b=some u) (heo:∃ u,h'.get? e=some u)
  (new:zAV P w (upd H x o') h' x o'):HOk P w (upd H x o') h':=fun b u q=>by
 have nown:∀ c y,H c=some (.own y)→c≠x:=fun c y r z=>by subst z; rw [r] at mu; exact mu
 have ntup:∀ c xs,H c=some (.tup xs)→c≠x:=fun c xs r z=>by subst z; rw [r] at mu; exact mu
 by_cases hb:b=x
 ·subst hb; rw [zA4] at q; cases q; exact new
 ·rw [zA5 hb] at q
  by_cases hbe:b=e
  ·have q':H b=some (.own x):=by
    rcases he with z | z
    ·exact absurd (hbe.trans z) hb
    ·rw [hbe]; exact z
   rw [q] at q'; cases q'
   obtain ⟨v,hv⟩:=heo
   exact ⟨v,by rw [hbe]; exact hv⟩
  ·refine (ok b u q).stay (fun c v hc r=>k c v ?_ r) (fun c r=>by rw [zA5 (nown c b r)]; exact r) fun c xs r=>by rw [zA5 (ntup c xs r)]; exact r
   rcases hc with rfl | hc
   ·exact hbe
   ·rintro rfl
    rcases he with z | z
    ·exact nown c b hc z
    ·simp_all
end
structure Un (fs ex:List Addr) (H H':Hp) (h h':Heap):Prop where
 keep:∀ b o,h.get? b=some o→H b=none→b∉fs→b∉ex→h'.get? b=some o
 slot:∀ b o,h.get? b=some o→H b=none→b∈fs→b∉ex→∃ sl,h'.get? b=some { o with slots:=sl }
 free:∀ b o,h.get? b=some o→H b=none→b∉ex→H' b=none
 there:∀ b o,h.get? b=some o→b∉ex→∃ o',h'.get? b=some o'
 tups:∀ b xs,H b=some (.tup xs)→H' b=some (.tup xs)
 frzs:∀ b o u,H b=some (.frz o u)→H' b=some (.frz o u)
 tbls:∀ b ps,H b=some (.tbl ps)→∃ more,H' b=some (.tbl (ps++more))
section
variable {fs fs' ex ex':List Addr}{H H1 H2:Hp}{h h1 h2 h':Heap}{a x e:Addr}{o:HO}
theorem Un.any (u:Un fs ex H H1 h h1) {b:Addr}{ob:Obj} (q:h.get? b=some ob) (n:H b=none) (hx:b∉ex):∃ sl,h1.get? b=some { ob with slots:=sl }:=by
 by_cases hb:b∈fs
 ·exact u.slot b ob q n hb hx
 ·exact ⟨ob.slots,u.keep b ob q n hb hx⟩
theorem Un.kept (k:∀ b u,h.get? b=some u→h'.get? b=some u):Un fs ex H H h h' :=
 ⟨fun b ob q _ _ _=>k b ob q,fun b ob q _ _ _=>⟨ob.slots,k b ob q⟩,fun _ _ _ n _=>n,fun b ob q _=>⟨ob,k b ob q⟩,fun _ _ q=>q,fun _ _ _ q=>q,fun _ ps q=>⟨#[],by rw [q]; simp⟩⟩
theorem Un.refl:Un fs ex H H h h:=Un.kept fun _ _ q=>q
theorem Un.laid (k:∀ b u,h.get? b=some u→h'.get? b=some u) (hp:h.objs.size≤a) (hn:H a=none):Un fs ex H (upd H a o) h h' where
 keep:=fun b u q _ _ _=>k b u q
 slot:=fun b u q _ _ _=>⟨u.slots,k b u q⟩
 free:=fun b u q n _=>by rw [zA5 (Nat.ne_of_lt (Nat.lt_of_lt_of_le (Heap.lt_size q) hp))]; exact n
 there:=fun b u q _=>⟨u,k b u q⟩
 tups:=fun b xs q=>by rw [zA5 (zAm q hn)]; exact q
 frzs:=fun b u xs q=>by rw [zA5 (zAm q hn)]; exact q
 tbls:=fun b ps q=>⟨#[],by rw [zA5 (zAm q hn),q]; simp⟩
theorem Un.write (mu:Mut (H x)) (he:e=x∨H e=some (.own x)) (k:∀ b u,b≠e→h.get? b=some u→h'.get? b=some u) (heo:∃ u,h'.get? e=some u):Un fs ex H (upd H x o) h h':=by
 have hx:∀ b,H b=none→b≠x:=fun b n z=>by subst z; rw [n] at mu; exact mu
 have hb:∀ b,H b=none→b≠e:=fun b n z=>by
  subst z
  rcases he with r | r
  ·exact hx b n r
  ·rw [n] at r; cases r
 have hm:∀ b u,H b=some u→¬ Mut (some u)→b≠x:=fun b u q nm z=>by subst z; rw [q] at mu; exact nm mu
 refine ⟨fun b u q n _ _=>k b u (hb b n) q,fun b u q n _ _=>⟨u.slots,k b u (hb b n) q⟩,fun b u q n _=>by rw [zA5 (hx b n)]; exact n,fun b u q _=>?_,
  fun b xs q=>by rw [zA5 (hm b _ q fun z=>z)]; exact q,fun b u xs q=>by rw [zA5 (hm b _ q fun z=>z)]; exact q,fun b ps q=>⟨#[],by rw [zA5 (hm b _ q fun z=>z),q]; simp⟩⟩
 by_cases hbe:b=e
 ·subst hbe; exact heo
 ·exact ⟨u,k b u hbe q⟩
end
noncomputable def trk (h:Heap) (H:Hp):List Addr:=(List.range h.objs.size).filter fun a=>(H a).isSome
noncomputable def hidT (h:Heap) (H:Hp):Heap:=W.hideAll h (trk h H)
theorem zLL (h:Heap) (H:Hp):(hidT h H).objs.size=h.objs.size:=W.hideAll_size _ _
theorem zOy {h:Heap}{H:Hp}{b:Addr}{o:Obj} (e:h.get? b=some o) (n:H b=none):(hidT h H).get? b=some o :=
 W.hideAll_get _ e fun hm=>by
  have q:=(List.mem_filter.mp hm).2
  rw [n] at q; simp at q
theorem of_hidT {h:Heap}{H:Hp}{b:Addr}{o:Obj} (e:(hidT h H).get? b=some o):h.get? b=some o∧H b=none:=by
 have e':=W.of_hideAll (trk h H) e
 refine ⟨e',?_⟩
 cases q:H b with
 | none=>rfl
 | some x =>
  have hm:b∈trk h H:=List.mem_filter.mpr ⟨List.mem_range.mpr (Heap.lt_size e'),by simp [q]⟩
  have z:(hidT h H).get? b=none:=W.hideAll_none (trk h H) hm
  rw [z] at e; cases e
noncomputable def allNews (g h:Heap) (L:Addr):List (Addr × Obj):=(List.range h.objs.size).filterMap fun a=>if a=L∨(g.get? a).isSome=true then none else (h.get? a).map fun o=>(a,o)
noncomputable def rest (g h:Heap) (L d:Addr):List (Addr × Obj):=(allNews g h L).filter fun p=>decide (p.1≠d)
structure Mod (K:W.Frag) (mg:Str→Option Value) (base:Heap):Prop where
 kin:K.In base
 glob:base.Ns mainGlobals mg
 blt:∃ mb,base.Ns builtinsNs mb∧∀ x:Str,x ≠ "__name__"→mb x=bootBuiltins x
 nolimit:base.NoLimit
structure Cx where
 prog:Program
 w:World
 K:W.Frag
 mg:Str→Option Value
 base:Heap
 A:Around
 N:List Str
 s₀:Shared
 H₀:Hp
 env:Env
 outer:List Env
 stack:List Env
 ex:List Addr
 fn:Str→Bool
 calm:Bool
 pn:List (Addr × Obj)
 xe:Value→Shared→Prop
noncomputable def frs (l:List Env):List Addr:=l.filterMap (·.frame)
noncomputable abbrev Cx.fs (X:Cx):List Addr:=frs X.outer
def Vis (sc:Scope) (x:Str):Prop:=sc.names.lookup x=some .local∨sc.names.lookup x=some .cell∨sc.names.lookup x=some .free
def Loc (sc:Scope) (x:Str):Prop:=sc.names.lookup x=some .local∨sc.names.lookup x=some .cell
def Look (env:Env) (h:Heap) (m:Str→Option Value) (x:Str) (u:Value):Prop :=
 (env.kindOf x=some .local∧m x=some u)∨((env.kindOf x=some .cell∨env.kindOf x=some .free)∧∃ c,env.cells.lookup x=some c∧h.IsCell c (some u))
structure Cx.Ok (X:Cx):Prop where
 mod:Mod X.K X.mg X.base
 kind:X.env.scope.kind=.function
 glob:X.env.globals=mainGlobals
 blt:X.env.builtins=builtinsNs
 above:X.s₀.heap.objs.size≤X.env.locals
 inj:∀ x y c,X.env.cells.lookup x=some c→X.env.cells.lookup y=some c→x=y
 has:∀ x,(X.env.kindOf x=some .cell∨X.env.kindOf x=some .free)→∃ c,X.env.cells.lookup x=some c
 cab:∀ x c,X.fn x=true→X.env.cells.lookup x=some c→X.s₀.heap.objs.size≤c
 hd:X.calm=true→X.A.handled=none
 frames:X.A.frames=some X.stack
 stk:X.stack=X.outer∨(X.stack=X.env::X.outer∧X.env.frame=some X.env.locals)
 exf:∀ b∈X.ex,b≠X.env.locals∧∀ x c,X.env.cells.lookup x=some c→c≠b
 bs:∀ b o,X.base.get? b=some o→X.s₀.heap.get? b=some o∧X.H₀ b=none
 bsz:X.base.objs.size≤X.s₀.heap.objs.size
 noex:∀ b o,X.base.get? b=some o→b∉X.ex
 exfs:∀ b∈X.ex,b∉X.fs
 funs:X.s₀.heap.FunFrames X.base X.outer
 frf:∀ b∈X.fs,X.H₀ b=none
structure Inv (X:Cx) (pins:List (Addr × Obj)) (σ:List (Option V)) (H:Hp) (s:Shared):Prop where
 ok:X.Ok
 os:s.os=X.s₀.os
 bare:AllBare s.gens
 base:Un X.fs X.ex X.H₀ H X.s₀.heap s.heap
 loc:∃ m,s.heap.Ns X.env.locals m∧∀ (i:Nat) (x:Str) (v:V),X.N[i]?=some x→σ[i]?=some (some v)→Vis X.env.scope x→∃ u,RelV v u∧Look X.env s.heap m x u
 cell:∀ x c,X.env.cells.lookup x=some c→∃ v,s.heap.IsCell c v
 free:H X.env.locals=none
 freeC:∀ x c,X.env.cells.lookup x=some c→H c=none
 pin:∀ p∈X.pn++pins,s.heap.get? p.1=some p.2∧H p.1=none∧p.1≠X.env.locals∧p.1∉X.fs∧∀ v,p.2.data≠.cell v
 hok:HOk X.prog X.w H s.heap
 len:σ.length=X.N.length
section
variable {X:Cx}{pins:List (Addr × Obj)}{σ:List (Option V)}{H H':Hp}{s:Shared}{h':Heap}
theorem Cx.Ok.nofr (ok:X.Ok) {b:Addr}{o:Obj} (e:X.base.get? b=some o):b∉X.fs:=fun hb=>by
 have:=(ok.funs.mem hb).1
 rw [e] at this; cases this
theorem Inv.bs (I:Inv X pins σ H s):∀ b o,X.base.get? b=some o→s.heap.get? b=some o∧H b=none:=fun b o e =>
 ⟨I.base.keep b o (I.ok.bs b o e).1 (I.ok.bs b o e).2 (I.ok.nofr e) (I.ok.noex b o e),I.base.free b o (I.ok.bs b o e).1 (I.ok.bs b o e).2 (I.ok.noex b o e)⟩
theorem Inv.bk (I:Inv X pins σ H s):∀ b o,X.base.get? b=some o→s.heap.get? b=some o:=fun b o e=>(I.bs b o e).1
theorem Inv.mod (I:Inv X pins σ H s):Mod X.K X.mg X.base:=I.ok.mod
theorem Inv.kIn (I:Inv X pins σ H s):X.K.In s.heap:=I.ok.mod.kin.keeps I.bk
theorem Inv.lt (I:Inv X pins σ H s):X.env.locals<s.heap.objs.size:=let ⟨_,hn,_⟩:=I.loc; hn.lt
theorem Inv.sz (I:Inv X pins σ H s):X.s₀.heap.objs.size≤s.heap.objs.size:=Nat.le_trans I.ok.above (Nat.le_of_lt I.lt)
theorem Inv.nofs (I:Inv X pins σ H s) {a:Addr} (h:s.heap.objs.size≤a):a∉X.fs:=fun hb=>by
 obtain ⟨_,o,ho,_⟩:=I.ok.funs.mem hb
 exact absurd (Nat.lt_of_lt_of_le (Heap.lt_size ho) (Nat.le_trans I.sz h)) (Nat.lt_irrefl _)
theorem Inv.cne (I:Inv X pins σ H s):∀ x c,X.env.cells.lookup x=some c→c≠X.env.locals:=fun x c e z=>by
 obtain ⟨v,o,ho,hd⟩:=I.cell x c e
 obtain ⟨m,⟨o',es,ep,ho',hd',_⟩,_⟩:=I.loc
 rw [z,ho'] at ho; cases ho; rw [hd'] at hd; cases hd
theorem Inv.funs (I:Inv X pins σ H s):s.heap.FunFrames X.base X.outer:=by
 have all:∀ l,(∀ b∈frs l,b∈X.fs)→X.s₀.heap.FunFrames X.base l→s.heap.FunFrames X.base l:=by
  intro l
  induction l with
  | nil=>intro _ _; trivial
  | cons env r ih =>
   intro hs hl
   obtain ⟨hk,⟨L,o,hf,hn,ho,hd⟩,hr⟩:=hl
   have hL:=hs L (by unfold frs; rw [List.filterMap_cons,hf]; exact List.mem_cons_self)
   obtain ⟨sl,e⟩:=I.base.slot L o ho (I.ok.frf L hL) hL fun z=>I.ok.exfs L z hL
   exact ⟨hk,⟨L,_,hf,hn,e,hd⟩,ih (fun b hb=>hs b (by unfold frs; rw [List.filterMap_cons,hf]; exact List.mem_cons_of_mem _ hb)) hr⟩
 exact all X.outer (fun _ hb=>hb) I.ok.funs
theorem Inv.stack (I:Inv X pins σ H s):s.heap.FunFrames X.base X.stack:=by
 rcases I.ok.stk with e | ⟨e,hf⟩
 ·rw [e]; exact I.funs
 ·rw [e]
  obtain ⟨m,hn,_⟩:=I.loc
  refine .cons (by rw [I.ok.kind]; decide) hf hn ?_ I.funs
  exact Heap.get?_none_of_le (Nat.le_trans I.ok.bsz I.ok.above)
theorem Inv.stkSub (I:Inv X pins σ H s):∀ b∈frs X.stack,b∈X.env.locals::X.fs:=fun b hb=>by
 rcases I.ok.stk with e | ⟨e,hf⟩
 ·rw [e] at hb; exact List.mem_cons_of_mem _ hb
 ·rw [e] at hb
  unfold frs at hb
  rw [List.filterMap_cons,hf] at hb
  exact hb
theorem Inv.stkFree (I:Inv X pins σ H s):∀ b∈frs X.stack,H b=none:=fun b hb=>by
 rcases List.mem_cons.mp (I.stkSub b hb) with e | hb
 ·rw [e]; exact I.free
 ·obtain ⟨_,o,ho,_⟩:=I.ok.funs.mem hb
  exact I.base.free b o ho (I.ok.frf b hb) fun z=>I.ok.exfs b z hb
theorem Inv.step {g':Array GenState}{t':Nat}{d':Drawn}{ch:List Addr} (I:Inv X pins σ H s)
  (hch:∀ b∈ch,(b∈X.ex∨X.s₀.heap.objs.size≤b)∧b≠X.env.locals∧(∀ x c,X.env.cells.lookup x=some c→c≠b)∧∀ p∈X.pn++pins,p.1≠b)
  (keep:∀ b o,b≠X.env.locals→b∉X.fs→b∉ch→s.heap.get? b=some o→H b=none→h'.get? b=some o)
  (slot:∀ b o,b≠X.env.locals→b∈X.fs→b∉ch→s.heap.get? b=some o→H b=none→∃ sl,h'.get? b=some { o with slots:=sl }) (free:∀ b o,b∉ch→s.heap.get? b=some o→H b=none→H' b=none)
  (there:∀ b o,b∉ch→s.heap.get? b=some o→∃ o',h'.get? b=some o')
  (tups:∀ b xs,H b=some (.tup xs)→H' b=some (.tup xs)) (frzs:∀ b o u,H b=some (.frz o u)→H' b=some (.frz o u)) (tbls:∀ b ps,H b=some (.tbl ps)→∃ more,H' b=some (.tbl (ps++more)))
  (ns:∀ m,s.heap.Ns X.env.locals m→h'.Ns X.env.locals m) (hok:HOk X.prog X.w H' h') (hg:AllBare g') :
  Inv X pins σ H' { s with heap:=h',gens:=g',drawn:=d',toks:=t' }:=by
 have neL:∀ b o,X.s₀.heap.get? b=some o→b≠X.env.locals:=fun b o e=>Nat.ne_of_lt (Nat.lt_of_lt_of_le (Heap.lt_size e) I.ok.above)
 have neC:∀ b o,X.s₀.heap.get? b=some o→b∉X.ex→b∉ch:=fun b o e hx hb=>by
  rcases (hch b hb).1 with z | z
  ·exact hx z
  ·exact absurd (Nat.lt_of_lt_of_le (Heap.lt_size e) z) (Nat.lt_irrefl _)
 have cellK:∀ x c,X.env.cells.lookup x=some c→∀ v,s.heap.IsCell c v→h'.IsCell c v:=fun x c e v ⟨o,ho,hd⟩=>by
  have nch:=fun z=>(hch c z).2.2.1 x c e rfl
  by_cases hc:c∈X.fs
  ·obtain ⟨sl,q⟩:=slot c o (I.cne x c e) hc nch ho (I.freeC x c e)
   exact ⟨_,q,hd⟩
  ·exact ⟨o,keep c o (I.cne x c e) hc nch ho (I.freeC x c e),hd⟩
 refine ⟨I.ok,I.os,hg,⟨fun b o e n hb hx=>?_,fun b o e n hb hx=>?_,fun b o e n hx=>?_,fun b o e hx=>?_,fun b xs e=>tups b xs (I.base.tups b xs e),fun b o xs e=>frzs b o xs (I.base.frzs b o xs e),fun b ps e=>?_⟩,?_,fun x c e=>?_,?_,fun x c e=>?_,fun p hp=>?_,hok,I.len⟩
 ·exact keep b o (neL b o e) hb (neC b o e hx) (I.base.keep b o e n hb hx) (I.base.free b o e n hx)
 ·obtain ⟨sl,e1⟩:=I.base.slot b o e n hb hx
  obtain ⟨sl',e2⟩:=slot b _ (neL b o e) hb (neC b o e hx) e1 (I.base.free b o e n hx)
  exact ⟨sl',e2⟩
 ·obtain ⟨o',e1⟩:=I.base.there b o e hx
  exact free b o' (neC b o e hx) e1 (I.base.free b o e n hx)
 ·obtain ⟨o',e1⟩:=I.base.there b o e hx
  exact there b o' (neC b o e hx) e1
 ·obtain ⟨m1,e1⟩:=I.base.tbls b ps e
  obtain ⟨m2,e2⟩:=tbls b _ e1
  exact ⟨m1++m2,by rw [e2,Array.append_assoc]⟩
 ·obtain ⟨m,hn,hl⟩:=I.loc
  refine ⟨m,ns m hn,fun i x v e1 e2 e3=>?_⟩
  obtain ⟨u,r,l⟩:=hl i x v e1 e2 e3
  refine ⟨u,r,?_⟩
  rcases l with l | ⟨k,c,e,z⟩
  ·exact .inl l
  ·exact .inr ⟨k,c,e,cellK x c e _ z⟩
 ·obtain ⟨v,z⟩:=I.cell x c e
  exact ⟨v,cellK x c e v z⟩
 ·obtain ⟨m,⟨o,_,_,ho,_⟩,_⟩:=I.loc
  exact free _ o (fun z=>(hch _ z).2.1 rfl) ho I.free
 ·obtain ⟨v,o,ho,hd⟩:=I.cell x c e
  exact free c o (fun z=>(hch c z).2.2.1 x c e rfl) ho (I.freeC x c e)
 ·obtain ⟨e,n,ne,nf,d⟩:=I.pin p hp
  have nch:=fun z=>(hch p.1 z).2.2.2 p hp rfl
  exact ⟨keep p.1 p.2 ne nf nch e n,free p.1 p.2 nch e n,ne,nf,d⟩
theorem Inv.un {t':Nat} (I:Inv X pins σ H s) (u:Un X.fs [] H H' s.heap h') (hok:HOk X.prog X.w H' h'):Inv X pins σ H' { s with heap:=h',toks:=t' }:=by
 obtain ⟨m,⟨o,es,ep,ho,r⟩,_⟩:=id I.loc
 obtain ⟨sl,hL⟩:=u.any ho I.free (by simp)
 exact I.step (g':=s.gens) (d':=s.drawn) (ch:=[]) (fun _ z=>nomatch z) (fun b o _ hb _ e n=>u.keep b o e n hb (by simp)) (fun b o _ hb _ e n=>u.slot b o e n hb (by simp)) (fun b o _ e n=>u.free b o e n (by simp)) (fun b o _ e=>u.there b o e (by simp)) u.tups u.frzs u.tbls (fun m' hm=>by
  obtain ⟨o',es',ep',ho',r'⟩:=hm
  rw [ho] at ho'; cases ho'
  exact ⟨_,es',ep',hL,r'⟩) hok I.bare
theorem Inv.call {g':Array GenState}{t':Nat}{d':Drawn}{ch:List Addr} (I:Inv X pins σ H s) (u:Un (frs X.stack) ch H H' s.heap h') (hok:HOk X.prog X.w H' h') (hg:AllBare g')
  (hch:∀ b∈ch,(b∈X.ex∨X.s₀.heap.objs.size≤b)∧b≠X.env.locals∧(∀ x c,X.env.cells.lookup x=some c→c≠b)∧∀ p∈X.pn++pins,p.1≠b) :
  Inv X pins σ H' { s with heap:=h',gens:=g',drawn:=d',toks:=t' }:=by
 obtain ⟨m,⟨o,es,ep,ho,r⟩,_⟩:=id I.loc
 obtain ⟨sl,hL⟩:=u.any ho I.free fun z=>(hch _ z).2.1 rfl
 exact I.step hch (fun b o hL hb hc e n=>u.keep b o e n (fun z=>(List.mem_cons.mp (I.stkSub b z)).elim hL hb) hc) (fun b o _ _ hc e n=>u.any e n hc) (fun b o hc e n=>u.free b o e n hc) (fun b o hc e=>u.there b o e hc) u.tups u.frzs u.tbls (fun m' hm=>by
  obtain ⟨o',es',ep',ho',r'⟩:=hm
  rw [ho] at ho'; cases ho'
  exact ⟨_,es',ep',hL,r'⟩) hok hg
theorem Inv.turned {t':Nat}{it:Addr} (I:Inv X pins σ H s) (k:∀ b o,b≠it→s.heap.get? b=some o→h'.get? b=some o) (hn:H it=none) (hL:it≠X.env.locals)
  (h1:it∈X.ex∨X.s₀.heap.objs.size≤it) (h2:∀ x c,X.env.cells.lookup x=some c→c≠it) (h3:∀ p∈X.pn++pins,p.1≠it):Inv X pins σ H { s with heap:=h',toks:=t' }:=by
 have nit:∀ b u,H b=some u→b≠it:=fun b u e z=>by rw [z,hn] at e; cases e
 refine I.step (g':=s.gens) (d':=s.drawn) (ch:=[it]) (fun b hb=>?_) (fun b o _ _ hc e _=>k b o (fun z=>hc (by simp [z])) e) (fun b o _ _ hc e _=>⟨o.slots,k b o (fun z=>hc (by simp [z])) e⟩) (fun _ _ _ _ n=>n)
  (fun b o hc e=>⟨o,k b o (fun z=>hc (by simp [z])) e⟩) (fun _ _ e=>e) (fun _ _ _ e=>e) (fun b ps e=>⟨#[],by rw [e]; simp⟩) (fun m hm=>?_) (fun b u e=>?_) I.bare
 ·have e:=by simpa using hb
  subst e
  exact ⟨h1,hL,h2,h3⟩
 ·obtain ⟨o,es,ep,ho,r⟩:=hm
  exact ⟨o,es,ep,k _ o (Ne.symm hL) ho,r⟩
 ·refine (I.hok b u e).stay (fun c v hc q=>k c v ?_ q) (fun _ q=>q) fun _ _ q=>q
  rcases hc with z | z
  ·rw [z]; exact nit b u e
  ·exact nit c _ z
theorem Inv.tok (I:Inv X pins σ H s) (t:Nat):Inv X pins σ H { s with toks:=t }:=I.un (h':=s.heap) (t':=t) Un.refl I.hok
theorem Inv.kept {t':Nat} (I:Inv X pins σ H s) (k:∀ b u,s.heap.get? b=some u→h'.get? b=some u):Inv X pins σ H { s with heap:=h',toks:=t' }:=I.un (Un.kept k) (I.hok.kept k)
theorem Inv.laid {a:Addr}{o:HO}{t':Nat} (I:Inv X pins σ H s) (k:∀ b u,s.heap.get? b=some u→h'.get? b=some u) (hp:s.heap.objs.size≤a) (new:zAV X.prog X.w (upd H a o) h' a o) :
  Inv X pins σ (upd H a o) { s with heap:=h',toks:=t' }:=I.un (Un.laid k hp (I.hok.fresh hp)) (I.hok.laid k hp new)
theorem Inv.write {x e:Addr}{o:HO}{t':Nat} (I:Inv X pins σ H s) (mu:Mut (H x)) (he:e=x∨H e=some (.own x)) (k:∀ b u,b≠e→s.heap.get? b=some u→h'.get? b=some u) (heo:∃ u,h'.get? e=some u)
  (new:zAV X.prog X.w (upd H x o) h' x o):Inv X pins σ (upd H x o) { s with heap:=h',toks:=t' }:=I.un (Un.write mu he k heo) (I.hok.write mu he k heo new)
theorem Inv.weak {σ':List (Option V)} (I:Inv X pins σ H s) (hl:σ'.length=σ.length) (w:∀ (i:Nat) v,σ'[i]?=some (some v)→σ[i]?=some (some v)):Inv X pins σ' H s :=
 ⟨I.ok,I.os,I.bare,I.base,let ⟨m,hn,hl'⟩:=I.loc; ⟨m,hn,fun i x v e1 e2 e3=>hl' i x v e1 (w i v e2) e3⟩,I.cell,I.free,I.freeC,I.pin,I.hok,hl.trans I.len⟩
theorem Inv.pins_of {pins':List (Addr × Obj)} (I:Inv X pins σ H s) (h:∀ p∈pins',s.heap.get? p.1=some p.2∧H p.1=none∧p.1≠X.env.locals∧p.1∉X.fs∧∀ v,p.2.data≠.cell v):Inv X pins' σ H s :=
 ⟨I.ok,I.os,I.bare,I.base,I.loc,I.cell,I.free,I.freeC,fun p hp=>(List.mem_append.mp hp).elim (fun z=>I.pin p (List.mem_append_left _ z)) (h p),I.hok,I.len⟩
theorem zFO {N:List Str} (hN:N.Nodup) {i j:Nat}{x:Str} (a:N[i]?=some x) (b:N[j]?=some x):i=j:=by
 obtain ⟨h1,e1⟩:=List.getElem?_eq_some_iff.mp a
 obtain ⟨h2,e2⟩:=List.getElem?_eq_some_iff.mp b
 exact (List.getElem_inj hN).mp (e1.trans e2.symm)
theorem zKB {M:Model}{A:Around}{E:Value→Shared→Prop}{i:Nat}{x:Str}{v:V}{u:Value}{Q:Unit→Shared→Prop} (I:Inv X pins σ H s) (hN:X.N.Nodup) (hi:X.N[i]?=some x) (hx:Loc X.env.scope x) (r:RelV v u)
  (h:∀ s',Inv X pins (σ.set i (some v)) H s'→(∃ a,Heap.SameBut a s.heap s'.heap∧(a=X.env.locals∨X.env.cells.lookup x=some a))→Q () s') (hf:X.fn x=true∨X.env.scope.names.lookup x=some .local:=by first | exact .inl rfl | exact .inr rfl | assumption):wpAny M A (storeName X.env x u) Q E s:=by
 obtain ⟨m,hn,hl⟩:=id I.loc
 have hcls:(X.env.scope.kind == .class||(X.env.scope.kind == .module&&X.env.locals != X.env.globals))=false:=by rw [I.ok.kind]; rfl
 have hiσ:i<σ.length:=by rw [I.len]; exact (List.getElem?_eq_some_iff.mp hi).1
 have cne:=I.cne
 have tracked:∀ {a:Addr}{h':Heap},(∃ o,s.heap.get? a=some o∧H a=none)→Heap.SameBut a s.heap h'→HOk X.prog X.w H h':=fun {a h'} ha hs b ob e=>by
  obtain ⟨_,_,hfree⟩:=ha
  refine (I.hok b ob e).stay (fun c w' hc q=>(hs.2 c ?_).trans q) (fun _ q=>q) fun _ _ q=>q
  rintro rfl
  rcases hc with rfl | hc
  ·rw [hfree] at e; cases e
  ·rw [hfree] at hc; cases hc
 rcases hx with hk | hk
 ·refine wpAny_storeName_local hk hn (fun h' hn' hs=>?_) hcls
  obtain ⟨oL,_,_,hoL,_⟩:=id hn
  refine h _ ⟨I.ok,I.os,I.bare,⟨fun b o e n hb hx=>?_,fun b o e n hb hx=>?_,I.base.free,fun b o e hx=>?_,I.base.tups,I.base.frzs,I.base.tbls⟩,⟨_,hn',fun j y v' e1 e2 e3=>?_⟩,fun y c e=>?_,I.free,I.freeC,fun p hp=>?_,tracked ⟨oL,hoL,I.free⟩ hs,by simpa using I.len⟩ ⟨_,hs,.inl rfl⟩
  ·exact (hs.2 b (Nat.ne_of_lt (Nat.lt_of_lt_of_le (Heap.lt_size e) I.ok.above))).trans (I.base.keep b o e n hb hx)
  ·obtain ⟨sl,e1⟩:=I.base.slot b o e n hb hx
   exact ⟨sl,(hs.2 b (Nat.ne_of_lt (Nat.lt_of_lt_of_le (Heap.lt_size e) I.ok.above))).trans e1⟩
  ·obtain ⟨o',e1⟩:=I.base.there b o e hx
   exact ⟨o',(hs.2 b (Nat.ne_of_lt (Nat.lt_of_lt_of_le (Heap.lt_size e) I.ok.above))).trans e1⟩
  ·by_cases hj:j=i
   ·subst hj
    rw [hi] at e1; cases e1
    rw [List.getElem?_set_self hiσ] at e2
    cases e2
    exact ⟨u,r,.inl ⟨hk,by simp⟩⟩
   ·rw [List.getElem?_set_ne (Ne.symm hj)] at e2
    obtain ⟨u',r',q⟩:=hl j y v' e1 e2 e3
    refine ⟨u',r',?_⟩
    rcases q with ⟨k,e⟩ | ⟨k,c,e,z⟩
    ·refine .inl ⟨k,?_⟩
     have:y≠x:=fun e=>hj (zFO hN e1 (e▸hi))
     simp [this,e]
    ·exact .inr ⟨k,c,e,z.sameBut hs (cne y c e)⟩
  ·obtain ⟨w',z⟩:=I.cell y c e
   exact ⟨w',z.sameBut hs (cne y c e)⟩
  ·obtain ⟨e,n,ne,nf,d⟩:=I.pin p hp
   exact ⟨(hs.2 p.1 ne).trans e,n,ne,nf,d⟩
 ·have hfn:X.fn x=true:=by
   rcases hf with z | z
   ·exact z
   ·rw [z] at hk; cases hk
  obtain ⟨c,hc⟩:=I.ok.has x (.inl hk)
  obtain ⟨w',z⟩:=I.cell x c hc
  refine wpAny_storeName_cell I.ok.kind hk hc z (fun h' hc' hs=>?_)
  obtain ⟨oc,hoc,hocd⟩:=id z
  refine h { s with heap:=h' } ⟨I.ok,I.os,I.bare,⟨fun b o e n hb hx=>?_,fun b o e n hb hx=>?_,I.base.free,fun b o e hx=>?_,I.base.tups,I.base.frzs,I.base.tbls⟩,⟨m,hn.sameBut hs (Ne.symm (cne x c hc)),fun j y v' e1 e2 e3=>?_⟩,fun y c' e=>?_,I.free,I.freeC,fun p hp=>?_,tracked ⟨oc,hoc,I.freeC x c hc⟩ hs,by simpa using I.len⟩ ⟨c,hs,.inr hc⟩
  ·exact (hs.2 b (Nat.ne_of_lt (Nat.lt_of_lt_of_le (Heap.lt_size e) (I.ok.cab x c hfn hc)))).trans (I.base.keep b o e n hb hx)
  ·obtain ⟨sl,e1⟩:=I.base.slot b o e n hb hx
   exact ⟨sl,(hs.2 b (Nat.ne_of_lt (Nat.lt_of_lt_of_le (Heap.lt_size e) (I.ok.cab x c hfn hc)))).trans e1⟩
  ·obtain ⟨o',e1⟩:=I.base.there b o e hx
   exact ⟨o',(hs.2 b (Nat.ne_of_lt (Nat.lt_of_lt_of_le (Heap.lt_size e) (I.ok.cab x c hfn hc)))).trans e1⟩
  ·by_cases hj:j=i
   ·subst hj
    rw [hi] at e1; cases e1
    rw [List.getElem?_set_self hiσ] at e2
    cases e2
    exact ⟨u,r,.inr ⟨.inl hk,c,hc,hc'⟩⟩
   ·rw [List.getElem?_set_ne (Ne.symm hj)] at e2
    obtain ⟨u',r',q⟩:=hl j y v' e1 e2 e3
    refine ⟨u',r',?_⟩
    rcases q with q | ⟨k,c',e,z'⟩
    ·exact .inl q
    ·refine .inr ⟨k,c',e,z'.sameBut hs ?_⟩
     rintro rfl
     exact hj (zFO hN e1 (I.ok.inj _ _ _ e hc▸hi))
  ·by_cases hcc:c'=c
   ·subst hcc; exact ⟨_,hc'⟩
   ·obtain ⟨w2,z2⟩:=I.cell y c' e
    exact ⟨w2,z2.sameBut hs hcc⟩
  ·obtain ⟨e,n,ne,nf,d⟩:=I.pin p hp
   refine ⟨(hs.2 p.1 ?_).trans e,n,ne,nf,d⟩
   intro q
   rw [q,hoc] at e
   have q':=Option.some.inj e
   exact d w' (by rw [← q']; exact hocd)
theorem zIM {M:Model}{A:Around}{E:Value→Shared→Prop}{i:Nat}{x:Str}{v:V}{u:Value}{Q:Unit→Shared→Prop} (I:Inv X pins σ H s) (hN:X.N.Nodup) (hi:X.N[i]?=some x) (hx:Loc X.env.scope x) (r:RelV v u)
  (h:∀ s',Inv X pins (σ.set i (some v)) H s'→Q () s') (hf:X.fn x=true∨X.env.scope.names.lookup x=some .local:=by first | exact .inl rfl | exact .inr rfl | assumption):wpAny M A (storeName X.env x u) Q E s :=
 zKB I hN hi hx r (fun s' I' _=>h s' I') hf
theorem Inv.call' {s':Shared}{ch:List Addr} (I:Inv X pins σ H s) (ho:s'.os=s.os) (u:Un (frs X.stack) ch H H' s.heap s'.heap) (hok:HOk X.prog X.w H' s'.heap) (hg:AllBare s'.gens)
  (hch:∀ b∈ch,(b∈X.ex∨X.s₀.heap.objs.size≤b)∧b≠X.env.locals∧(∀ x c,X.env.cells.lookup x=some c→c≠b)∧∀ p∈X.pn++pins,p.1≠b):Inv X pins σ H' s':=by
 obtain ⟨h',g',d',t',o'⟩:=s'
 have e:o'=s.os:=ho
 subst e
 exact I.call (g':=g') (t':=t') (d':=d') u hok hg hch
end
noncomputable abbrev XK:=Value→Option Addr→Hp→Prop
noncomputable abbrev St:=List (Option V)
noncomputable abbrev VK:=V→Hp→Prop
noncomputable abbrev TE:=St→Hp→VK→Prop
noncomputable abbrev TT:=St→Hp→(Bool→Hp→Prop)→Prop
noncomputable abbrev TA:=St→Hp→(List V→Hp→Prop)→Prop
structure Ends where
 nx:St→Hp→Prop
 rt:VK
 bk:St→Hp→Prop:=fun _ _=>False
 ct:St→Hp→Prop:=fun _ _=>False
noncomputable abbrev TS:=Ends→St→Hp→Prop
inductive EP (X:Cx) (pins:List (Addr × Obj)) (σ:St) (Q:VK) (u:Value) (s':Shared):Prop
 | mk (v:V) (H':Hp) (I:Inv X pins σ H' s') (r:RelV v u) (q:Q v H')
inductive TP (X:Cx) (pins:List (Addr × Obj)) (σ:St) (Q:Bool→Hp→Prop) (b:Bool) (s':Shared):Prop
 | mk (H':Hp) (I:Inv X pins σ H' s') (q:Q b H')
inductive AP (X:Cx) (pins:List (Addr × Obj)) (σ:St) (Q:List V→Hp→Prop) (us:List Value) (s':Shared):Prop
 | mk (vs:List V) (H':Hp) (I:Inv X pins σ H' s') (r:Vals vs us) (q:Q vs H')
def SP (X:Cx) (pins:List (Addr × Obj)) (D:Ends) (f:Flow) (s':Shared):Prop :=
 match f with
 | .next=>∃ σ' H',Inv X pins σ' H' s'∧D.nx σ' H'
 | .brk=>∃ σ' H',Inv X pins σ' H' s'∧D.bk σ' H'
 | .cont=>∃ σ' H',Inv X pins σ' H' s'∧D.ct σ' H'
 | .ret u=>∃ v σ' H',Inv X pins σ' H' s'∧RelV v u∧D.rt v H'
def PE (X:Cx) (e:Expr) (t:TE):Prop :=
 ∀ (pins:List (Addr × Obj)) (s:Shared) (σ:St) (H:Hp) (Q:VK),Inv X pins σ H s→t σ H Q→wpAny (model X.prog X.w) X.A (eval e X.env) (EP X pins σ Q) X.xe s
def PT (X:Cx) (e:Expr) (t:TT):Prop :=
 ∀ (pins:List (Addr × Obj)) (s:Shared) (σ:St) (H:Hp) (Q:Bool→Hp→Prop),Inv X pins σ H s→t σ H Q→wpAny (model X.prog X.w) X.A (isTrue e X.env (eval e X.env)) (TP X pins σ Q) X.xe s
def PW (X:Cx) (e:Expr) (t:TT):Prop :=
 ∀ (whole:Sem Value) (pins:List (Addr × Obj)) (s:Shared) (σ:St) (H:Hp) (Q:Bool→Hp→Prop),Inv X pins σ H s→t σ H Q→wpAny (model X.prog X.w) X.A (isTrue e X.env whole) (TP X pins σ Q) X.xe s
theorem PW.pt {X:Cx}{e:Expr}{t:TT} (h:PW X e t):PT X e t:=h _
def PA (X:Cx) (es:List Expr) (t:TA):Prop :=
 ∀ (pos:Pos) (pins:List (Addr × Obj)) (s:Shared) (σ:St) (H:Hp) (Q:List V→Hp→Prop),Inv X pins σ H s→t σ H Q→wpAny (model X.prog X.w) X.A (spliced (backTo pos (starEach es X.env))) (AP X pins σ Q) X.xe s
def PS (X:Cx) (st:Stmt) (t:TS):Prop :=
 ∀ (pins:List (Addr × Obj)) (s:Shared) (σ:St) (H:Hp) (D:Ends),Inv X pins σ H s→t D σ H→wpAny (model X.prog X.w) X.A (exec st X.env) (SP X pins D) X.xe s
def PSs (X:Cx) (st:List Stmt) (t:TS):Prop :=
 ∀ (pins:List (Addr × Obj)) (s:Shared) (σ:St) (H:Hp) (D:Ends),Inv X pins σ H s→t D σ H→wpAny (model X.prog X.w) X.A (execs st X.env) (SP X pins D) X.xe s
theorem thn {α:Type}{t:Sem α}{Q Q':α→Shared→Prop}{M:Model}{A:Around}{E:Value→Shared→Prop}{s:Shared} (h:wpAny M A t Q E s) (hQ:∀ a s,Q a s→Q' a s):wpAny M A t Q' E s:=wpAny_mono h hQ fun _ _ x=>x
section
variable {X:Cx}
noncomputable def tVar (i:Nat):TE:=fun σ H Q=>∃ v,σ[i]?=some (some v)∧Q v H
noncomputable def tC (v:V):TE:=fun _ H Q=>Q v H
theorem zFm {i:Nat}{x:Str}{pos:Pos} (hN:X.N[i]?=some x) (hv:Vis X.env.scope x) (hd:(x == ("__debug__":Str))=false:=by decide) (hcd:(x == ("__classdict__":Str))=false:=by decide):PE X (.Name x pos) (tVar i):=by
 intro pins s σ H Q I h
 obtain ⟨v,e,h⟩:=h
 obtain ⟨m,hn,hl⟩:=I.loc
 obtain ⟨u,r,l⟩:=hl i x v hN e hv
 have fin:EP X pins σ Q u s:=⟨v,H,I,r,h⟩
 rcases l with ⟨hk,hm⟩ | ⟨hk,c,hc,hcell⟩
 ·exact wpAny_Name (wpAny_loadName_local I.ok.kind hk hn hm fin) hd
 ·rcases hk with hk | hk
  ·exact wpAny_Name (wpAny_loadName_cell I.ok.kind hk hc hcell fin) hd
  ·exact wpAny_Name (wpAny_loadName_free I.ok.kind hk hc hcell fin hcd) hd
theorem pe_int {i j pos}:PE X (.Constant (.int i) j pos) (tC (.int i)):=fun _ _ _ H _ I h=>wpAny_Constant_int ⟨.int i,H,I.tok _,⟨_,rfl⟩,h⟩
theorem pe_bl {b j pos}:PE X (.Constant (.bool b) j pos) (tC (.bl b)):=fun _ _ _ H _ I h=>Constant_bool ⟨.bl b,H,I,rfl,h⟩
theorem zL3 {j pos}:PE X (.Constant .none j pos) (tC .non):=fun _ _ _ H _ I h=>Constant_none ⟨.non,H,I,rfl,h⟩
theorem zPi {x j pos}:PE X (.Constant (.str x) j pos) (tC (.str x)):=fun _ _ _ H _ I h=>Calls.Constant_str ⟨.str x,H,I.tok _,⟨_,rfl⟩,h⟩
def Gl (X:Cx) (x:Str):Prop:=X.env.kindOf x=some .globalImplicit
theorem zBQ {E:Value→Shared→Prop}{pins:List (Addr × Obj)}{s:Shared}{σ:St}{H:Hp}{x:Str}{u:Value}{pos:Pos}{Q:Value→Shared→Prop} (I:Inv X pins σ H s) (hg:Gl X x) (hm:X.mg x=some u) (h:Q u s)
  (hd:(x == ("__debug__":Str))=false:=by decide):wpAny (model X.prog X.w) X.A (eval (.Name x pos) X.env) Q E s :=
 Calls.Name_function_global I.ok.kind hg (Calls.loadGlobal_global (by rw [I.ok.glob]; exact I.mod.glob.keeps I.bk) hm h) hd
theorem zE6 {E:Value→Shared→Prop}{pins:List (Addr × Obj)}{s:Shared}{σ:St}{H:Hp}{x:Str}{u:Value}{pos:Pos}{Q:Value→Shared→Prop} (I:Inv X pins σ H s) (hg:Gl X x) (hm:X.mg x=none) (hv:bootBuiltins x=some u) (h:Q u s)
  (hn:x ≠ "__name__":=by decide) (hd:(x == ("__debug__":Str))=false:=by decide):wpAny (model X.prog X.w) X.A (eval (.Name x pos) X.env) Q E s:=by
 obtain ⟨mb,h1,h2⟩:=I.mod.blt
 exact Calls.Name_function_global I.ok.kind hg (Calls.loadGlobal_builtin (by rw [I.ok.glob]; exact I.mod.glob.keeps I.bk) hm (by rw [I.ok.blt]; exact h1.keeps I.bk) ((h2 x hn).trans hv) h) hd
theorem zHP {x:Str}{v:V}{u:Value}{pos:Pos} (hg:Gl X x) (hm:X.mg x=some u) (r:RelV v u) (hd:(x == ("__debug__":Str))=false:=by decide):PE X (.Name x pos) (tC v) :=
 fun _ _ _ H _ I h=>zBQ I hg hm ⟨v,H,I,r,h⟩ hd
theorem zL5 {x:Str}{v:V}{u:Value}{pos:Pos} (hg:Gl X x) (hm:X.mg x=none) (hv:bootBuiltins x=some u) (r:RelV v u) (hn:x ≠ "__name__":=by decide) (hd:(x == ("__debug__":Str))=false:=by decide):PE X (.Name x pos) (tC v) :=
 fun _ _ _ H _ I h=>zE6 I hg hm hv ⟨v,H,I,r,h⟩ hn hd
variable {a b:Expr}{ta tb:TE}{pos:Pos}
variable {tA tB':TT}{rest:List Expr}
noncomputable def tAnd (t u:TT):TT:=fun σ H Q=>t σ H fun c H1=>if c=true then u σ H1 Q else Q false H1
noncomputable def tOr (t u:TT):TT:=fun σ H Q=>t σ H fun c H1=>if c=true then Q true H1 else u σ H1 Q
noncomputable def tNot (t:TT):TT:=fun σ H Q=>t σ H fun c H1=>Q (!c) H1
theorem zQm (ha:PT X a tA):PW X (.BoolOp .And [a] pos) tA:=by
 intro wh pins s σ H Q I h
 refine isTrue_and (thn (ha pins s σ H Q I h) fun c s1 e=>?_)
 cases c with
 | true=>exact isTrue_and_nil e
 | false=>exact e
theorem pw_or1 (ha:PT X a tA):PW X (.BoolOp .Or [a] pos) tA:=by
 intro wh pins s σ H Q I h
 refine isTrue_or (thn (ha pins s σ H Q I h) fun c s1 e=>?_)
 cases c with
 | false=>exact isTrue_or_nil e
 | true=>exact e
theorem pw_and (ha:PT X a tA) (hb:PW X (.BoolOp .And (b::rest) pos) tB'):PW X (.BoolOp .And (a::b::rest) pos) (tAnd tA tB'):=by
 intro wh pins s σ H Q I h
 refine isTrue_and (thn (ha pins s σ H _ I h) fun c s1 ⟨H1,I1,q1⟩=>?_)
 cases c with
 | true=>exact hb wh pins s1 σ H1 Q I1 q1
 | false=>exact ⟨H1,I1,q1⟩
theorem pw_or (ha:PT X a tA) (hb:PW X (.BoolOp .Or (b::rest) pos) tB'):PW X (.BoolOp .Or (a::b::rest) pos) (tOr tA tB'):=by
 intro wh pins s σ H Q I h
 refine isTrue_or (thn (ha pins s σ H _ I h) fun c s1 ⟨H1,I1,q1⟩=>?_)
 cases c with
 | true=>exact ⟨H1,I1,q1⟩
 | false=>exact hb wh pins s1 σ H1 Q I1 q1
theorem pt_not (ha:PT X a tA):PT X (.UnaryOp .Not a pos) (tNot tA):=by
 intro pins s σ H Q I h
 exact isTrue_not (thn (ha pins s σ H (fun c H1=>Q (!c) H1) I h) fun c s' ⟨H',I',q⟩=>⟨H',I',q⟩)
noncomputable def tAndV (ta tb:TE):TE:=fun σ H Q=>ta σ H fun x H1=>∃ c,x=.bl c∧if c=true then tb σ H1 Q else Q (.bl false) H1
noncomputable def tOrV (ta tb:TE):TE:=fun σ H Q=>ta σ H fun x H1=>∃ c,x=.bl c∧if c=true then Q (.bl true) H1 else tb σ H1 Q
noncomputable def tNotV (ta:TE):TE:=fun σ H Q=>ta σ H fun x H1=>∃ c,x=.bl c∧Q (.bl (!c)) H1
theorem pe_one {op}{t:TE} (h:PE X a t):PE X (.BoolOp op [a] pos) t:=fun pins s σ H Q I hw=>BoolOp_one (h pins s σ H Q I hw)
theorem pe_and (ha:PE X a ta) (hb:PE X (.BoolOp .And (b::rest) pos) tb):PE X (.BoolOp .And (a::b::rest) pos) (tAndV ta tb):=by
 intro pins s σ H Q I h
 refine BoolOp_and (thn (ha pins s σ H _ I h) fun v s1 ⟨x,H1,I1,r1,q1⟩=>?_)
 obtain ⟨c,rfl,q1⟩:=q1
 cases r1
 refine wpAny_truthy_bool ?_
 cases c with
 | true=>exact hb pins s1 σ H1 Q I1 q1
 | false=>exact ⟨.bl false,H1,I1,rfl,q1⟩
theorem pe_or (ha:PE X a ta) (hb:PE X (.BoolOp .Or (b::rest) pos) tb):PE X (.BoolOp .Or (a::b::rest) pos) (tOrV ta tb):=by
 intro pins s σ H Q I h
 refine BoolOp_or (thn (ha pins s σ H _ I h) fun v s1 ⟨x,H1,I1,r1,q1⟩=>?_)
 obtain ⟨c,rfl,q1⟩:=q1
 cases r1
 refine wpAny_truthy_bool ?_
 cases c with
 | false=>exact hb pins s1 σ H1 Q I1 q1
 | true=>exact ⟨.bl true,H1,I1,rfl,q1⟩
theorem pe_not (ha:PE X a ta):PE X (.UnaryOp .Not a pos) (tNotV ta):=by
 intro pins s σ H Q I h
 refine UnaryOp_ (thn (ha pins s σ H _ I h) fun v s1 ⟨x,H1,I1,r1,q1⟩=>?_)
 obtain ⟨c,rfl,q1⟩:=q1
 cases r1
 exact not_of (wpAny_truthy_bool ⟨.bl (!c),H1,I1,rfl,q1⟩)
noncomputable def tIf (t:TT) (ta tb:TE):TE:=fun σ H Q=>t σ H fun c H1=>if c=true then ta σ H1 Q else tb σ H1 Q
theorem zIU {c:Expr} (hc:PT X c tA) (ha:PE X a ta) (hb:PE X b tb):PE X (.IfExp c a b pos) (tIf tA ta tb):=by
 intro pins s σ H Q I h
 refine wpAny_IfExp (thn (hc pins s σ H _ I h) fun d s1 ⟨H1,I1,q1⟩=>?_)
 cases d with
 | true=>exact ha pins s1 σ H1 Q I1 q1
 | false=>exact hb pins s1 σ H1 Q I1 q1
end
def SqL (K:W.Frag) (H:Hp) (a:Addr) (xs:List V):Prop :=
 Rd H a (.lst xs) ∨
  ∃ (o:Obj) (its:Array Value) (n:Nat),K.lookup a=some o∧o.cls=.type "list"∧o.dict=none∧o.data=.seq its n∧its.size≤sizeLine∧Vals xs its.toList
def SqT (K:W.Frag) (H:Hp) (a:Addr) (xs:List V):Prop :=
 Rd H a (.tup xs) ∨
  ∃ (o:Obj) (its:Array Value) (n:Nat),K.lookup a=some o∧o.cls=.type "tuple"∧o.data=.seq its n∧its.size≤sizeLine∧Vals xs its.toList
noncomputable def absV:Value→Option V
 | .none=>some .non
 | .bool b=>some (.bl b)
 | .int i _=>some (.int i)
 | .str x _=>some (.str x)
 | .bytes b _=>some (.byt b)
 | .float b _=>some (.flt b)
 | .ref a=>some (.ref a)
 | .type n=>some (.ty n)
 | _=>none
theorem RelV.abs {x:V}{u:Value} (r:RelV x u):absV u=some x:=by
 cases x with
 | non=>cases r; rfl
 | bl _=>cases r; rfl
 | int _=>obtain ⟨t,rfl⟩:=r; rfl
 | str _=>obtain ⟨t,rfl⟩:=r; rfl
 | byt _=>obtain ⟨t,rfl⟩:=r; rfl
 | flt _=>obtain ⟨t,rfl⟩:=r; rfl
 | ref _=>cases r; rfl
 | ty _=>cases r; rfl
theorem RelV.inj {x y:V}{u:Value} (r:RelV x u) (q:RelV y u):x=y:=Option.some.inj (r.abs.symm.trans q.abs)
theorem Vals.inj:∀ {xs ys:List V}{us:List Value},Vals xs us→Vals ys us→xs=ys
 | _,_,_,.nil,.nil=>rfl
 | _,_,_,.cons r t,.cons r' t'=>by rw [r.inj r',Vals.inj t t']
section
variable {X:Cx}{pins:List (Addr × Obj)}{σ:St}{H:Hp}{s:Shared}{a:Addr}{xs ys:List V}
theorem SqL.of {K:W.Frag} (h:H a=some (.lst xs)):SqL K H a xs:=.inl (.inl h)
theorem SqT.of {K:W.Frag} (h:H a=some (.tup xs)):SqT K H a xs:=.inl (.inl h)
theorem Inv.list (I:Inv X pins σ H s) (h:SqL X.K H a xs):∃ its:List Value,Vals xs its∧PlainL s.heap a its.toArray∧xs.length≤sizeLine:=by
 rcases h with h | ⟨o,its,n,hk,hc,hd,hs,hz,r⟩
 ·obtain ⟨z,its,n,r,e⟩:=h.ok I.hok
  exact ⟨its,r,⟨_,n,e,rfl,rfl,rfl⟩,z⟩
 ·refine ⟨its.toList,r,⟨o,n,I.kIn a o hk,hc,hd,by simpa using hs⟩,?_⟩
  have e:=r.length
  simp only [Array.length_toList] at e
  lia
theorem Inv.tuple (I:Inv X pins σ H s) (h:SqT X.K H a xs):∃ its:List Value,Vals xs its∧IsTup s.heap a its.toArray∧xs.length≤sizeLine:=by
 rcases h with h | ⟨o,its,n,hk,hc,hs,hz,r⟩
 ·obtain ⟨z,its,r,p⟩:=h.ok I.hok
  exact ⟨its,r,p,z⟩
 ·refine ⟨its.toList,r,⟨o,I.kIn a o hk,hc,n,by simpa using hs⟩,?_⟩
  have e:=r.length
  simp only [Array.length_toList] at e
  lia
theorem Inv.list_inj (I:Inv X pins σ H s) (h:SqL X.K H a xs) (h':SqL X.K H a ys):xs=ys:=by
 obtain ⟨its,r,⟨o,n,e,_,_,d⟩,_⟩:=I.list h
 obtain ⟨its',r',⟨o',n',e',_,_,d'⟩,_⟩:=I.list h'
 rw [e] at e'; cases e'
 rw [d] at d'
 injection d' with d1 _
 have:=by simpa using congrArg Array.toList d1
 subst this
 exact r.inj r'
theorem Inv.tuple_inj (I:Inv X pins σ H s) (h:SqT X.K H a xs) (h':SqT X.K H a ys):xs=ys:=by
 obtain ⟨its,r,⟨o,e,_,n,d⟩,_⟩:=I.tuple h
 obtain ⟨its',r',⟨o',e',_,n',d'⟩,_⟩:=I.tuple h'
 rw [e] at e'; cases e'
 rw [d] at d'
 injection d' with d1 _
 have:=by simpa using congrArg Array.toList d1
 subst this
 exact r.inj r'
end
noncomputable abbrev Cx.wish (X:Cx) (E:Value→Shared→Prop):Cx:={ X with xe:=E }
noncomputable abbrev Cx.nox (X:Cx):Cx:=X.wish fun _ _=>False
theorem Cx.Ok.wish {X:Cx} (ok:X.Ok) (E:Value→Shared→Prop):(X.wish E).Ok :=
 ⟨ok.mod,ok.kind,ok.glob,ok.blt,ok.above,ok.inj,ok.has,ok.cab,ok.hd,ok.frames,ok.stk,ok.exf,ok.bs,ok.bsz,ok.noex,ok.exfs,ok.funs,ok.frf⟩
theorem Cx.Ok.unwish {X:Cx}{E:Value→Shared→Prop} (ok:(X.wish E).Ok):X.Ok :=
 ⟨ok.mod,ok.kind,ok.glob,ok.blt,ok.above,ok.inj,ok.has,ok.cab,ok.hd,ok.frames,ok.stk,ok.exf,ok.bs,ok.bsz,ok.noex,ok.exfs,ok.funs,ok.frf⟩
section
variable {X:Cx}{pins:List (Addr × Obj)}{σ:St}{H:Hp}{s:Shared}{E:Value→Shared→Prop}
theorem Inv.wish (I:Inv X pins σ H s) (E:Value→Shared→Prop):Inv (X.wish E) pins σ H s:=⟨I.ok.wish E,I.os,I.bare,I.base,I.loc,I.cell,I.free,I.freeC,I.pin,I.hok,I.len⟩
theorem Inv.unwish (I:Inv (X.wish E) pins σ H s):Inv X pins σ H s:=⟨I.ok.unwish,I.os,I.bare,I.base,I.loc,I.cell,I.free,I.freeC,I.pin,I.hok,I.len⟩
theorem SP.unwish {D:Ends}{f:Flow}{s':Shared} (h:SP (X.wish E) pins D f s'):SP X pins D f s':=by
 cases f with
 | next=>obtain ⟨σ',H',I,q⟩:=h; exact ⟨σ',H',I.unwish,q⟩
 | brk=>obtain ⟨σ',H',I,q⟩:=h; exact ⟨σ',H',I.unwish,q⟩
 | cont=>obtain ⟨σ',H',I,q⟩:=h; exact ⟨σ',H',I.unwish,q⟩
 | ret u=>obtain ⟨v,σ',H',I,r,q⟩:=h; exact ⟨v,σ',H',I.unwish,r,q⟩
theorem PSs.nox {st:List Stmt}{t:TS} (h:PSs X.nox st t):PSs X st t:=fun pins s σ H D I hw =>
 wpAny_mono (h pins s σ H D (I.wish _) hw) (fun _ _ q=>q.unwish) fun _ _ z=>False.elim z
end
section
variable {X:Cx}{st:Stmt}{rest:List Stmt}{t u:TS}{e:Expr}{te:TE}{pos:Pos}
noncomputable def zNa:TS:=fun D σ H=>D.nx σ H
noncomputable def tSeq (t u:TS):TS:=fun D σ H=>t { D with nx:=u D } σ H
theorem zFL:PSs X [] zNa:=fun _ _ σ H _ I h=>wpAny_execs_nil ⟨σ,H,I,h⟩
theorem zBj (h1:PS X st t) (h2:PSs X rest u):PSs X (st::rest) (tSeq t u):=by
 intro pins s σ H D I h
 refine wpAny_execs_cons (thn (h1 pins s σ H { D with nx:=u D } I h) fun f s1 q=>?_)
 cases f with
 | next =>
  obtain ⟨σ',H',I',q⟩:=q
  exact h2 pins s1 σ' H' D I' q
 | ret v=>exact q
 | brk=>exact q
 | cont=>exact q
theorem zQp (h1:PS X st t):PSs X [st] t:=by
 intro pins s σ H D I h
 refine wpAny_execs_cons (thn (h1 pins s σ H D I h) fun f s1 q=>?_)
 cases f with
 | next=>exact wpAny_execs_nil q
 | ret v=>exact q
 | brk=>exact q
 | cont=>exact q
noncomputable def tBreak:TS:=fun D σ H=>D.bk σ H
noncomputable def tCont:TS:=fun D σ H=>D.ct σ H
theorem zQt:PS X (.Pass pos) zNa:=fun _ _ σ H _ I h=>wpAny_Pass ⟨σ,H,I,h⟩
theorem zND:PS X (.Break pos) tBreak:=fun _ _ σ H _ I h=>wpAny_Break ⟨σ,H,I,h⟩
theorem zHO:PS X (.Continue pos) tCont:=fun _ _ σ H _ I h=>wpAny_Continue ⟨σ,H,I,h⟩
theorem Inv.quiet {pins:List (Addr × Obj)}{σ:St}{H:Hp}{s:Shared} (I:Inv X pins σ H s):interactive X.env=false:=by simp [interactive,I.ok.kind]
noncomputable def tDrop (te:TE):TS:=fun D σ H=>te σ H fun _ H1=>D.nx σ H1
theorem zKX (he:PE X e te) (hs:swapsWith e none pos.line X.env=pure false:=by rfl):PS X (.Expr e pos) (tDrop te):=by
 intro pins s σ H D I h
 exact wpAny_Expr_any (thn (he pins s σ H _ I h) fun v s1 ⟨x,H1,I1,r1,q1⟩=>⟨σ,H1,I1,q1⟩) I.quiet hs
noncomputable def tRet (te:TE):TS:=fun D σ H=>te σ H D.rt
theorem zKW (he:PE X e te):PS X (.Return (some e) pos) (tRet te):=by
 intro pins s σ H D I h
 exact wpAny_Return_some (thn (he pins s σ H _ I h) fun v s1 ⟨x,H1,I1,r1,q1⟩=>⟨x,σ,H1,I1,r1,q1⟩)
noncomputable def tRetN:TS:=fun D _ H=>D.rt .non H
theorem zQs:PS X (.Return none pos) tRetN:=fun _ _ σ H _ I h=>wpAny_Return_none ⟨.non,σ,H,I,rfl,h⟩
noncomputable def tIfS (c:TT) (t u:TS):TS:=fun D σ H=>c σ H fun b H1=>if b=true then t D σ H1 else u D σ H1
theorem ps_if {c:Expr}{a b:List Stmt}{tc:TT} (hc:PT X c tc) (ha:PSs X a t) (hb:PSs X b u):PS X (.If c a b pos) (tIfS tc t u):=by
 intro pins s σ H D I h
 refine wpAny_If (thn (hc pins s σ H _ I h) fun d s1 ⟨H1,I1,q1⟩=>?_)
 cases d with
 | true=>exact ha pins s1 σ H1 D I1 q1
 | false=>exact hb pins s1 σ H1 D I1 q1
noncomputable def tNever:TS:=fun _ _ _=>False
theorem zNC:PS X st tNever:=fun _ _ _ _ _ _ h=>h.elim
end
noncomputable abbrev TG:=V→St→Hp→(St→Hp→Prop)→Prop
noncomputable abbrev TGs:=List V→St→Hp→(St→Hp→Prop)→Prop
def PG (X:Cx) (target:Expr) (t:TG):Prop :=
 ∀ (pins:List (Addr × Obj)) (s:Shared) (σ:St) (H:Hp) (v:V) (u:Value) (Q:St→Hp→Prop),Inv X pins σ H s→RelV v u→t v σ H Q →
  wpAny (model X.prog X.w) X.A (assign target X.env u) (fun _ s'=>∃ σ' H',Inv X pins σ' H' s'∧Q σ' H') X.xe s
def PGs (X:Cx) (ts:List Expr) (t:TGs):Prop :=
 ∀ (pins:List (Addr × Obj)) (s:Shared) (σ:St) (H:Hp) (vs:List V) (us:List Value) (Q:St→Hp→Prop),Inv X pins σ H s→Vals vs us→t vs σ H Q →
  wpAny (model X.prog X.w) X.A (assignInOrder ((assignEach ts X.env).map (·.2)) us) (fun _ s'=>∃ σ' H',Inv X pins σ' H' s'∧Q σ' H') X.xe s
noncomputable abbrev TSet:=V→V→V→Hp→(Hp→Prop)→Prop
def PSet (X:Cx) (t:TSet):Prop :=
 ∀ (pins:List (Addr × Obj)) (s:Shared) (σ:St) (H:Hp) (o i v:V) (ov iv u:Value) (Q:Hp→Prop),Inv X pins σ H s→RelV o ov→RelV i iv→RelV v u→t o i v H Q →
  wpAny (model X.prog X.w) X.A (setItem ov iv u) (fun _ s'=>∃ H',Inv X pins σ H' s'∧Q H') X.xe s
section
variable {X:Cx}{pos:Pos}
noncomputable def zFV (i:Nat):TG:=fun v σ H Q=>Q (σ.set i (some v)) H
theorem zC6 {i:Nat}{x:Str} (hN:X.N.Nodup) (hi:X.N[i]?=some x) (hx:Loc X.env.scope x) (hf:X.fn x=true∨X.env.scope.names.lookup x=some .local:=by first | exact .inl rfl | exact .inr rfl | assumption):PG X (.Name x pos) (zFV i):=by
 intro pins s σ H v u Q I r h
 exact wpAny_assign_Name (zIM I hN hi hx r (fun s' I'=>⟨_,H,I',h⟩) hf)
noncomputable def gNil:TGs:=fun vs σ H Q=>vs=[]∧Q σ H
noncomputable def gCons (t:TG) (u:TGs):TGs:=fun vs σ H Q=>∃ v r,vs=v::r∧t v σ H fun σ' H'=>u r σ' H' Q
theorem zL2:PGs X [] gNil:=by
 intro pins s σ H vs us Q I r h
 obtain ⟨e,h⟩:=h
 subst e
 cases r
 exact assignInOrder_nil ⟨σ,H,I,h⟩
theorem zIT {e:Expr}{es:List Expr}{t:TG}{u:TGs} (h1:PG X e t) (h2:PGs X es u)
  (hs:(assignEach (e::es) X.env).map (·.2)=assign e X.env::(assignEach es X.env).map (·.2):=by rfl):PGs X (e::es) (gCons t u):=by
 intro pins s σ H vs us Q I r h
 obtain ⟨v,vr,e1,h⟩:=h
 subst e1
 cases r with
 | cons r rr =>
  rw [hs]
  refine assignInOrder_cons (thn (h1 pins s σ H _ _ _ I r h) fun _ s1 ⟨σ1,H1,I1,q1⟩=>?_)
  exact h2 pins s1 σ1 H1 _ _ Q I1 rr q1
noncomputable def gTup (K:W.Frag) (n:Nat) (t:TGs):TG:=fun v σ H Q=>∃ a xs,v=.ref a∧SqT K H a xs∧xs.length=n∧t xs σ H Q
theorem zPg {es:List Expr}{k:Nat}{t:TGs}{n:Nat} (hc:X.calm=true) (h:PGs X es t)
  (hn:(assignEach es X.env).length=n:=by rfl) (hst:(assignEach es X.env).findIdx? (·.1)=none:=by rfl):PG X (.Tuple es k pos) (gTup X.K n t):=by
 intro pins s σ H v u Q I r hw
 obtain ⟨a,xs,e1,hq,hl,hw⟩:=hw
 subst e1
 cases r
 obtain ⟨its,rv,ht,hz⟩:=I.tuple hq
 refine assign_Tuple_tuple (I.ok.hd hc) ht (by simp [hn,← hl,rv.length]) hst fun h' hx=>?_
 have I1:=I.kept (t':=s.toks) fun b o e=>hx b o (Nat.ne_of_lt (Heap.lt_size e)) e
 exact h pins _ σ H xs _ Q I1 (by simpa using rv) hw
noncomputable def gSub (to ti:TE) (t:TSet):TG:=fun v σ H Q=>to σ H fun o H1=>ti σ H1 fun i H2=>t o i v H2 fun H3=>Q σ H3
theorem pg_sub {o i:Expr}{to ti:TE}{t:TSet} (ho:PE X o to) (hi:PE X i ti) (hs:PSet X t)
  (ha:∀ v,assign (.Subscript o i pos) X.env v=(do
   let ov ← holding [v] (eval o X.env)
   let iv ← holding [v,ov] (eval i X.env)
   standAt pos
   holding [v,ov,iv] (setItem ov iv v)
   release [v,ov,iv] []):=by intro _; rfl):PG X (.Subscript o i pos) (gSub to ti t):=by
 intro pins s σ H v u Q I r h
 rw [ha]
 refine wpAny_bind (wpAny_holding (thn (ho pins s σ H _ I h) fun ov s1 ⟨x,H1,I1,r1,q1⟩=>?_))
 refine wpAny_bind (wpAny_holding (thn (hi pins s1 σ H1 _ I1 q1) fun iv s2 ⟨y,H2,I2,r2,q2⟩=>?_))
 refine wpAny_bind (wpAny_standAt (wpAny_bind (wpAny_holding (thn (hs pins s2 σ H2 x y v ov iv u _ I2 r1 r2 r q2) fun _ s3 ⟨H3,I3,q3⟩=>?_))))
 exact wpAny_release ⟨σ,H3,I3,q3⟩
noncomputable def tAsg (te:TE) (g:TG):TS:=fun D σ H=>te σ H fun x H1=>g x σ H1 D.nx
theorem zFk {tg e:Expr}{te:TE}{g:TG} (he:PE X e te) (hg:PG X tg g) (hs:swapsWithSole [tg] e pos.line X.env=pure false:=by rfl) (hw:swappedStores [tg] e X.env=pure none:=by rfl)
  (h1:(assignEach [tg] X.env).map (·.2)=[assign tg X.env]:=by rfl):PS X (.Assign [tg] e pos) (tAsg te g):=by
 intro pins s σ H D I h
 refine wpAny_Assign_stores (thn (he pins s σ H _ I h) fun v s1 ⟨x,H1,I1,r1,q1⟩=>?_) hs hw
 rw [h1]
 exact thn (hg pins s1 σ H1 x v _ I1 r1 q1) fun _ s2 q=>q
end
section
variable {X:Cx}{pos:Pos}
noncomputable def tWhile (c:TT) (tb:TS):TS:=fun D σ H=>∃ W:Nat→St→Hp→Prop,(∃ m,W m σ H)∧∀ m σ H,W m σ H →
 c σ H fun b H1=>if b=true then ∃ N:St→Hp→Prop,(∀ σ' H',N σ' H'→∃ m',m'<m∧W m' σ' H')∧tb { D with nx:=N,ct:=N,bk:=D.nx } σ H1 else D.nx σ H1
theorem zNz {c:Expr}{body:List Stmt}{tc:TT}{tb:TS} (hp:PassesOwn (model X.prog X.w) X.A X.env X.xe) (hc:PT X c tc) (hb:PSs X body tb):PS X (.While c body [] pos) (tWhile tc tb):=by
 intro pins s σ H D I h
 obtain ⟨W,⟨m0,w0⟩,turn⟩:=h
 refine wpAny_While (codeAny_whileLoop (fun n s'=>∃ σ' H',Inv X pins σ' H' s'∧W n σ' H') ?_ m0 ⟨σ,H,I,w0⟩)
 rintro n s1 ⟨σ1,H1,I1,w1⟩
 refine wpAny_passesOwn hp (thn (hc pins s1 σ1 H1 _ I1 (turn n σ1 H1 w1)) fun b s2 ⟨H2,I2,q2⟩=>?_)
 cases b with
 | true =>
  obtain ⟨N,hN,q2⟩:=q2
  refine wpAny_passesOwn hp (thn (hb pins s2 σ1 H2 _ I2 q2) fun f s3 q3=>?_)
  cases f with
  | next =>
   obtain ⟨σ3,H3,I3,n3⟩:=q3
   obtain ⟨m',hm,w3⟩:=hN σ3 H3 n3
   exact ⟨m',hm,σ3,H3,I3,w3⟩
  | cont =>
   obtain ⟨σ3,H3,I3,n3⟩:=q3
   obtain ⟨m',hm,w3⟩:=hN σ3 H3 n3
   exact ⟨m',hm,σ3,H3,I3,w3⟩
  | brk=>exact q3
  | ret v=>exact q3
 | false =>
  exact wpAny_execs_nil ⟨σ1,H2,I2,q2⟩
end
structure It where
 go:Nat→Hp→Prop
 yld:Nat→Hp→V→Hp→Prop
 stop:Nat→Hp→Prop
def FpOk (X:Cx) (pins:List (Addr × Obj)) (H:Hp) (b:Addr):Prop :=
 H b=none∧b≠X.env.locals∧b∉X.fs∧(b∈X.ex∨X.s₀.heap.objs.size≤b)∧(∀ x c,X.env.cells.lookup x=some c→c≠b)∧∀ p∈X.pn++pins,p.1≠b
theorem Inv.fpOk {X:Cx}{pins:List (Addr × Obj)}{σ:St}{H H':Hp}{s:Shared}{b:Addr} (I:Inv X pins σ H s) (hb:s.heap.objs.size≤b) (hn:H' b=none):FpOk X pins H' b:=by
 refine ⟨hn,Nat.ne_of_gt (Nat.lt_of_lt_of_le I.lt hb),I.nofs hb,.inr (Nat.le_trans I.sz hb),fun x c e z=>?_,fun p hp z=>?_⟩
 ·obtain ⟨v,q⟩:=I.cell x c e
  exact absurd (Nat.lt_of_lt_of_le q.lt (by rw [z]; exact hb)) (Nat.lt_irrefl _)
 ·exact absurd (Nat.lt_of_lt_of_le (Heap.lt_size (I.pin p hp).1) (by rw [z]; exact hb)) (Nat.lt_irrefl _)
structure Turn (P:Program) (w:World) (K:W.Frag) (tg:Expr) (J:It) (fp:List Addr) (it:Addr) (tn:Nat→Heap→Prop):Prop where
 mem:it∈fp
 obj:∀ i h,tn i h→∀ b∈fp,∃ o,h.get? b=some o∧∀ v,o.data≠.cell v
 keep:∀ i h h',tn i h→(∀ b∈fp,∀ o,h.get? b=some o→h'.get? b=some o)→tn i h'
 item:∀ (X:Cx),X.prog=P→X.w=w→X.K=K→X.calm=true→∀ (i:Nat) (pins:List (Addr × Obj)) (s:Shared) (σ:St) (H:Hp) (E:Value→Shared→Prop),Inv X pins σ H s→(∀ b∈fp,FpOk X pins H b)→tn i s.heap→J.go i H →
  wpAny (model P w) X.A (pyNext (.ref it)) (fun r s1=>∃ u,r=some u ∧
   wpAny (model P w) X.A (letOwnedTupleGo tg (.ref it) u) (fun _ s2=>∃ x H',Inv X pins σ H' s2∧RelV x u∧J.yld i H x H'∧tn (i+1) s2.heap∧∀ b∈fp,H' b=none) E s1) E s
 done:∀ (X:Cx),X.prog=P→X.w=w→X.K=K→X.calm=true→∀ (i:Nat) (pins:List (Addr × Obj)) (s:Shared) (σ:St) (H:Hp) (E:Value→Shared→Prop),Inv X pins σ H s→(∀ b∈fp,FpOk X pins H b)→tn i s.heap→J.stop i H →
  wpAny (model P w) X.A (pyNext (.ref it)) (fun r s1=>r=none∧Inv X pins σ H s1) E s
 self:∀ (A:Around) (i:Nat) (s:Shared) (Q:Value→Shared→Prop) (E:Value→Shared→Prop),tn i s.heap→Q (.ref it) s→wpAny (model P w) A (pyIter (.ref it)) Q E s
noncomputable abbrev TI:=St→Hp→(It→Hp→Prop)→Prop
inductive PIE (X:Cx) (pins:List (Addr × Obj)) (σ:St) (tg:Expr) (R:It→Hp→Prop) (itv:Value) (s2:Shared):Prop
 | mk (it:Addr) (fp:List Addr) (tn:Nat→Heap→Prop) (J:It) (H':Hp) (e:itv=.ref it) (I:Inv X pins σ H' s2) (T:Turn X.prog X.w X.K tg J fp it tn) (t0:tn 0 s2.heap) (f:∀ b∈fp,FpOk X pins H' b) (r:R J H')
def PI (X:Cx) (tg iter:Expr) (wi:TI):Prop :=
 ∀ (pins:List (Addr × Obj)) (s:Shared) (σ:St) (H:Hp) (R:It→Hp→Prop),Inv X pins σ H s→wi σ H R →
  wpAny (model X.prog X.w) X.A (eval iter X.env) (fun v s1=>wpAny (model X.prog X.w) X.A (pyIter v) (PIE X pins σ tg R) X.xe s1) X.xe s
theorem zLO {M:Model}{A:Around}{E:Value→Shared→Prop}{s:Shared}{tg:Expr}{it:Addr}{u:Value}{o:Obj}{n:String}{vs:Array Value}{Q:Unit→Shared→Prop} (ho:s.heap.get? it=some o) (hc:o.cls=.type n) (hd:o.data=.fields vs)
    (hn:["enumerate","zip","dict_itemiterator","dict_reverseitemiterator","odict_iterator","itertools.zip_longest","itertools.pairwise"].contains n=false) (hQ:Q () s):wpAny M A (letOwnedTupleGo tg (.ref it) u) Q E s:=by
  cases tg <;> first
    | exact wpAny_pure hQ
    | (cases u <;> first
        | exact wpAny_pure hQ
        | (refine wpAny_bind (wpAny_load ho ?_)
           rw [hc,hd]
           show wpAny M A (if (["enumerate","zip","dict_itemiterator","dict_reverseitemiterator","odict_iterator","itertools.zip_longest","itertools.pairwise"].contains n&&vs[0]? == some (rawInt _))=true then _ else _) Q E s
           rw [if_neg (by intro h; rw [hn,Bool.false_and] at h; cases h)]
           exact wpAny_pure hQ))
noncomputable def Itl (K:W.Frag) (a:Addr):It :=
 ⟨fun i H=>∃ xs x,SqL K H a xs∧xs[i]?=some x,fun i H x H'=>H'=H∧∀ xs,SqL K H a xs→xs[i]?=some x,fun i H=>∃ xs,SqL K H a xs∧xs.length≤i⟩
noncomputable def Itt (K:W.Frag) (a:Addr):It :=
 ⟨fun i H=>∃ xs x,SqT K H a xs∧xs[i]?=some x,fun i H x H'=>H'=H∧∀ xs,SqT K H a xs→xs[i]?=some x,fun i H=>∃ xs,SqT K H a xs∧xs.length≤i⟩
noncomputable def Itr (lo:Int) (n:Nat):It:=⟨fun i _=>i<n,fun i H x H'=>H'=H∧x=.int (lo+i),fun i _=>n≤i⟩
theorem zKp {P:Program}{w:World}{K:W.Frag}{tg:Expr} (a it:Addr):Turn P w K tg (Itl K a) [it] it (fun i h=>h.IsListIter it a i) where
 mem:=by simp
 obj:=fun i h st b hb=>by
  have e:=by simpa using hb
  subst e
  obtain ⟨o,e,c,d⟩:=st
  exact ⟨o,e,fun v z=>by rw [d] at z; cases z⟩
 keep:=fun i h h' st k=>st.at fun o e=>k it (by simp) o e
 item:=by
  intro X hP hw hK hc i pins s σ H E I hf st hg
  subst hP hw hK
  obtain ⟨xs,x,hq,hx⟩:=hg
  obtain ⟨its,rv,p,hz⟩:=I.list hq
  obtain ⟨u,hu,ru⟩:=rv.get hx
  obtain ⟨f0,f1,f2,f3,f4,f5⟩:=hf it (by simp)
  refine wpAny_pyNext_list_item st p.isList (by simpa using hu) fun h' st' sb=>?_
  have I1:=I.turned (t':=s.toks) (fun b o hb e=>(sb.2 b hb).trans e) f0 f1 f3 f4 f5
  obtain ⟨o,e,c,d⟩:=id st'
  exact ⟨u,rfl,zLO e c d (by decide) ⟨x,H,I1,ru,⟨rfl,fun ys hy=>by rw [I.list_inj hy hq]; exact hx⟩,st',fun b hb=>(hf b hb).1⟩⟩
 done:=by
  intro X hP hw hK hc i pins s σ H E I hf st hg
  subst hP hw hK
  obtain ⟨xs,hq,hx⟩:=hg
  obtain ⟨its,rv,p,hz⟩:=I.list hq
  obtain ⟨f0,f1,f2,f3,f4,f5⟩:=hf it (by simp)
  have hl:=rv.length
  exact wpAny_pyNext_list_end (I.ok.hd hc) st p.isList (by simp; lia) fun h' eb=>⟨rfl,I.turned (t':=s.toks) (fun b o hb e=>eb b o hb e) f0 f1 f3 f4 f5⟩
 self:=fun _ _ _ _ _ st h=>wpAny_pyIter_listiter st h
theorem zJr {P:Program}{w:World}{K:W.Frag}{tg:Expr} (a it:Addr):Turn P w K tg (Itt K a) [it] it (fun i h=>h.IsTupleIter it a i) where
 mem:=by simp
 obj:=fun i h st b hb=>by
  have e:=by simpa using hb
  subst e
  obtain ⟨o,e,c,d⟩:=st
  exact ⟨o,e,fun v z=>by rw [d] at z; cases z⟩
 keep:=fun i h h' st k=>st.at fun o e=>k it (by simp) o e
 item:=by
  intro X hP hw hK hc i pins s σ H E I hf st hg
  subst hP hw hK
  obtain ⟨xs,x,hq,hx⟩:=hg
  obtain ⟨its,rv,p,hz⟩:=I.tuple hq
  obtain ⟨u,hu,ru⟩:=rv.get hx
  obtain ⟨f0,f1,f2,f3,f4,f5⟩:=hf it (by simp)
  refine wpAny_pyNext_tuple_item st (p) (by simpa using hu) fun h' st' sb=>?_
  have I1:=I.turned (t':=s.toks) (fun b o hb e=>(sb.2 b hb).trans e) f0 f1 f3 f4 f5
  obtain ⟨o,e,c,d⟩:=id st'
  exact ⟨u,rfl,zLO e c d (by decide) ⟨x,H,I1,ru,⟨rfl,fun ys hy=>by rw [I.tuple_inj hy hq]; exact hx⟩,st',fun b hb=>(hf b hb).1⟩⟩
 done:=by
  intro X hP hw hK hc i pins s σ H E I hf st hg
  subst hP hw hK
  obtain ⟨xs,hq,hx⟩:=hg
  obtain ⟨its,rv,p,hz⟩:=I.tuple hq
  obtain ⟨f0,f1,f2,f3,f4,f5⟩:=hf it (by simp)
  have hl:=rv.length
  exact wpAny_pyNext_tuple_end (I.ok.hd hc) st (p) (by simp; lia) fun h' eb=>⟨rfl,I.turned (t':=s.toks) (fun b o hb e=>eb b o hb e) f0 f1 f3 f4 f5⟩
 self:=fun _ _ _ _ _ st h=>wpAny_pyIter_tupleiter st h
theorem zJs {P:Program}{w:World}{K:PySem.W.Frag}{tg:Expr} (it:Addr) (lo:Int) (n:Nat):Turn P w K tg (Itr lo n) [it] it (fun i h=>IsRangeIter h it (lo+(i:Nat)*1) ((n:Int) - (i:Nat)) 1) where
 mem:=by simp
 obj:=fun i h st b hb=>by
  have e:=by simpa using hb
  subst e
  exact ⟨_,st,fun v z=>by
   have z':Data.fields _=Data.cell v:=z
   cases z'⟩
 keep:=fun i h h' st k=>k it (by simp) _ st
 item:=by
  intro X hP hw hK hc i pins s σ H E I hf st hg
  subst hP hw hK
  obtain ⟨f0,f1,f2,f3,f4,f5⟩:=hf it (by simp)
  have W:=Walks.range (prog:=X.prog) (w:=X.w) (I.ok.hd hc) it lo 1 n
  refine W.item i s _ _ hg st fun v h' tk hv st' kk=>?_
  obtain ⟨t,rfl⟩:=hv
  have I1:Inv X pins σ H { s with heap:=h',toks:=tk }:=I.turned (fun b o hb e=>kk b o (by simpa using hb) e) f0 f1 f3 f4 f5
  refine ⟨_,rfl,zLO st' rfl rfl (by decide) ⟨.int (lo+i),H,I1,⟨t,?_⟩,⟨rfl,rfl⟩,st',fun b hb=>(hf b hb).1⟩⟩
  rw [Int.mul_one]
 done:=by
  intro X hP hw hK hc i pins s σ H E I hf st hg
  subst hP hw hK
  obtain ⟨f0,f1,f2,f3,f4,f5⟩:=hf it (by simp)
  exact wpAny_pyNext_range_end (I.ok.hd hc) st (by have:n≤i:=hg; lia) fun h' eb=>⟨rfl,I.turned (t':=s.toks) (fun b o hb e=>eb b o hb e) f0 f1 f3 f4 f5⟩
 self:=fun _ _ _ _ _ st h=>wpAny_pyIter_rangeiter st h
section
variable {X:Cx}{tg:Expr}
theorem zIS {pins:List (Addr × Obj)}{σ:St}{H:Hp}{s:Shared}{R:It→Hp→Prop}{E:Value→Shared→Prop}{lo hi:Int}{t u v:Tok}{tk:Nat} (I:Inv X pins σ H s) (h1:-(2 ^ 62)≤lo) (h2:lo<2 ^ 62) (h3:-(2 ^ 62)≤hi) (h4:hi<2 ^ 62)
  (q:R (Itr lo (hi - lo).toNat) H):wpAny (model X.prog X.w) X.A (pyIter (.ref s.heap.objs.size)) (PIE X pins σ tg R) E { s with heap:=s.heap.push { cls:=.type "range",data:=.fields #[.int lo t,.int hi u,.int 1 v] },toks:=tk }:=by
 refine wpAny_pyIter_range (IsRange.new ..) (small_one h1 h2 h3 h4) ?_
 have I1:Inv X pins σ H { s with heap:=s.heap.push { cls:=.type "range",data:=.fields #[.int lo t,.int hi u,.int 1 v] },toks:=tk }:=I.kept fun b o e=>Heap.get?_push_of_some _ e
 refine ⟨(s.heap.push { cls:=.type "range",data:=.fields #[.int lo t,.int hi u,.int 1 v] }).objs.size,[(s.heap.push { cls:=.type "range",data:=.fields #[.int lo t,.int hi u,.int 1 v] }).objs.size],_,_,H,rfl,
  I1.kept (t':=tk) fun b o e=>Heap.get?_push_of_some _ e,zJs _ lo (hi - lo).toNat,?_,fun b hb=>?_,q⟩
 ·have e1:lo+((0:Nat):Int)*1=lo:=by simp
  have e2:(((hi - lo).toNat:Nat):Int) - ((0:Nat):Int)=Builtin.Range.rangeSize lo hi 1:=by rw [rangeSize_one]; split <;> lia
  rw [e1,e2]
  exact Heap.get?_push_size _ rfl
 ·have e:b=(s.heap.push { cls:=.type "range",data:=.fields #[.int lo t,.int hi u,.int 1 v] }).objs.size:=by simpa using hb
  subst e
  exact I1.fpOk (Nat.le_refl _) (I1.hok.fresh (Nat.le_refl _))
noncomputable def iRng1 (ta:TA):TI:=fun σ H R=>ta σ H fun vs H1=>∃ j:Int,vs=[.int j]∧-(2 ^ 62)≤j∧j<2 ^ 62∧R (Itr 0 j.toNat) H1
noncomputable def iRng2 (ta:TA):TI:=fun σ H R=>ta σ H fun vs H1=>∃ i j:Int,vs=[.int i,.int j]∧(-(2 ^ 62)≤i∧i<2 ^ 62∧-(2 ^ 62)≤j∧j<2 ^ 62)∧R (Itr i (j - i).toNat) H1
theorem zL1 {a:Expr}{ta:TA}{p pos:Pos} (hg:Gl X "range") (hm:X.mg "range"=none) (ha:PA X [a] ta) (hs:starEach [a] X.env=[(false,eval a X.env)]:=by rfl):PI X tg (.Call (.Name "range" p) [a] [] pos) (iRng1 ta):=by
 intro pins s σ H R I h
 refine Call_ (zE6 I hg hm boot_range (PyProof.Rows.callWith_type1 (thn (ha pos pins s σ H _ I h) fun us s1 ⟨vs,H1,I1,r1,q1⟩=>?_) hs rfl))
 obtain ⟨j,e,q1,q2,q⟩:=q1
 subst e
 cases r1 with
 | cons r rr =>
  cases rr
  obtain ⟨t,rfl⟩:=r
  exact call_range_1 (zIS I1 (by lia) (by lia) q1 q2 (by simpa using q))
theorem zL0 {a b:Expr}{ta:TA}{p pos:Pos} (hg:Gl X "range") (hm:X.mg "range"=none) (ha:PA X [a,b] ta) (hs:starEach [a,b] X.env=[(false,eval a X.env),(false,eval b X.env)]:=by rfl) (hs2:starEach [b] X.env=[(false,eval b X.env)]:=by rfl) :
  PI X tg (.Call (.Name "range" p) [a,b] [] pos) (iRng2 ta):=by
 intro pins s σ H R I h
 refine Call_ (zE6 I hg hm boot_range (PyProof.Rows.callWith_type1 (thn (ha pos pins s σ H _ I h) fun us s1 ⟨vs,H1,I1,r1,q1⟩=>?_) (by rw [hs,hs2]) (by rw [hs2]; rfl)))
 obtain ⟨i,j,e,⟨q1,q2,q3,q4⟩,q⟩:=q1
 subst e
 cases r1 with
 | cons r rr =>
  cases rr with
  | cons r' rr =>
   cases rr
   obtain ⟨t,rfl⟩:=r
   obtain ⟨t',rfl⟩:=r'
   exact call_range_2 (zIS I1 q1 q2 q3 q4 q)
noncomputable def tFor (wi:TI) (g:TG) (tb:TS):TS:=fun D σ H=>wi σ H fun J H1=>∃ W:Nat→Nat→St→Hp→Prop,(∃ m,W 0 m σ H1)∧∀ i m σ H,W i m σ H →
 (J.stop i H∧D.nx σ H)∨(J.go i H∧∃ N:St→Hp→Prop,(∀ σ' H',N σ' H'→∃ m',m'<m∧W (i+1) m' σ' H')∧∀ x H',J.yld i H x H'→g x σ H' fun σ2 H2=>tb { D with nx:=N,ct:=N,bk:=D.nx } σ2 H2)
noncomputable def zFl (fp:List Addr) (h:Heap):List (Addr × Obj):=fp.filterMap fun b=>(h.get? b).map fun o=>(b,o)
theorem zAS {fp:List Addr}{h:Heap}{b:Addr}{o:Obj} (hb:b∈fp) (e:h.get? b=some o):(b,o)∈zFl fp h:=List.mem_filterMap.mpr ⟨b,hb,by rw [e]; rfl⟩
theorem zLe {fp:List Addr}{h:Heap}{p:Addr × Obj} (hp:p∈zFl fp h):p.1∈fp∧h.get? p.1=some p.2:=by
 obtain ⟨b,hb,e⟩:=List.mem_filterMap.mp hp
 cases q:h.get? b with
 | none=>rw [q] at e; cases e
 | some o =>
  rw [q] at e
  have e':=Option.some.inj e
  subst e'
  exact ⟨hb,q⟩
theorem Inv.pinned {pins:List (Addr × Obj)}{σ:St}{H:Hp}{s:Shared}{fp:List Addr} (I:Inv X pins σ H s) (hf:∀ b∈fp,FpOk X pins H b) (ho:∀ b∈fp,∃ o,s.heap.get? b=some o∧∀ v,o.data≠.cell v):Inv X (pins++zFl fp s.heap) σ H s :=
 I.pins_of fun p hp=>(List.mem_append.mp hp).elim (fun z=>I.pin p (List.mem_append_right _ z)) fun z=>by
  obtain ⟨hb,e⟩:=zLe z
  obtain ⟨f0,f1,f2,_⟩:=hf p.1 hb
  obtain ⟨o,e',d⟩:=ho p.1 hb
  rw [e] at e'; cases e'
  exact ⟨e,f0,f1,f2,d⟩
theorem Inv.unpinned {pins pl:List (Addr × Obj)}{σ:St}{H:Hp}{s:Shared} (I:Inv X (pins++pl) σ H s):Inv X pins σ H s:=I.pins_of fun p hp=>I.pin p (List.mem_append_right _ (List.mem_append_left _ hp))
theorem ps_for {iter:Expr}{body:List Stmt}{wi:TI}{g:TG}{tb:TS}{pos:Pos} (hp:PassesOwn (model X.prog X.w) X.A X.env X.xe) (hc:X.calm=true) (hi:PI X tg iter wi) (hg:PG X tg g) (hb:PSs X body tb)
  (hs:∀ x,foldedSetIterable iter X.env x=pure x:=by intro _; rfl):PS X (.For tg iter body [] pos) (tFor wi g tb):=by
 intro pins s σ H D I h
 refine wpAny_For (thn (hi pins s σ H _ I h) fun v s1 h1=>thn h1 fun itv s2 h2=>?_) hs
 obtain ⟨it,fp,tn,J,H2,e,I2,T,st2,f2,W,⟨m0,w0⟩,turn⟩:=h2
 subst e
 have stat:∀ {H':Hp},(∀ b∈fp,H' b=none)→∀ b∈fp,FpOk X pins H' b:=fun hn b hb=>⟨hn b hb,(f2 b hb).2⟩
 refine codeAny_forLoop_any (fun n s'=>∃ i σ' H',Inv X pins σ' H' s'∧tn i s'.heap∧(∀ b∈fp,H' b=none)∧W i n σ' H') ?_ m0 ⟨0,σ,H2,I2,st2,fun b hb=>(f2 b hb).1,w0⟩
 rintro n s3 ⟨i,σ3,H3,I3,st3,fr3,w3⟩
 rcases turn i n σ3 H3 w3 with ⟨stop,qn⟩ | ⟨go,N,hN,step⟩
 ·refine wpAny_passesOwn hp (thn (T.done X rfl rfl rfl hc i pins s3 σ3 H3 X.xe I3 (stat fr3) st3 stop) fun r s4 ⟨hr,I4⟩=>?_)
  subst hr
  exact wpAny_execs_nil ⟨σ3,H3,I4,qn⟩
 ·refine wpAny_passesOwn hp (thn (T.item X rfl rfl rfl hc i pins s3 σ3 H3 X.xe I3 (stat fr3) st3 go) fun r s4 ⟨u,hr,h4⟩=>?_)
  subst hr
  refine wpAny_passesOwn hp (thn h4 fun _ s5 ⟨x,H5,I5,r5,y5,st5,fr5⟩=>?_)
  have I5':=I5.pinned (stat fr5) (T.obj _ _ st5)
  refine wpAny_passesOwn hp (thn (hg _ s5 σ3 H5 x u _ I5' r5 (step x H5 y5)) fun _ s6 ⟨σ6,H6,I6,q6⟩=>?_)
  refine wpAny_passesOwn hp (thn (hb _ s6 σ6 H6 _ I6 q6) fun f s7 q7=>?_)
  have again:∀ {σ7:St}{H7:Hp},Inv X (pins++zFl fp s5.heap) σ7 H7 s7→N σ7 H7→∃ m,m<n∧∃ i σ' H',Inv X pins σ' H' s7∧tn i s7.heap∧(∀ b∈fp,H' b=none)∧W i m σ' H':=fun {σ7 H7} I7 n7=>by
   obtain ⟨m',hm,w7⟩:=hN σ7 H7 n7
   refine ⟨m',hm,i+1,σ7,H7,I7.unpinned,T.keep _ _ _ st5 fun b hb o e=>(I7.pin (b,o) (List.mem_append_right _ (List.mem_append_right _ (zAS hb e)))).1,fun b hb=>?_,w7⟩
   obtain ⟨o,e,d⟩:=T.obj _ _ st5 b hb
   exact (I7.pin (b,o) (List.mem_append_right _ (List.mem_append_right _ (zAS hb e)))).2.1
  cases f with
  | next=>obtain ⟨σ7,H7,I7,n7⟩:=q7; exact again I7 n7
  | cont=>obtain ⟨σ7,H7,I7,n7⟩:=q7; exact again I7 n7
  | brk=>obtain ⟨σ7,H7,I7,q7⟩:=q7; exact ⟨σ7,H7,I7.unpinned,q7⟩
  | ret v=>obtain ⟨x7,σ7,H7,I7,r7,q7⟩:=q7; exact ⟨x7,σ7,H7,I7.unpinned,r7,q7⟩
end
noncomputable abbrev R2:=V→V→Hp→VK→Prop
def OpR (X:Cx) (f:Value→Value→Sem Value) (r:R2):Prop :=
 ∀ (pins:List (Addr × Obj)) (s:Shared) (σ:St) (H:Hp) (x y:V) (v u:Value) (Q:VK),Inv X pins σ H s→RelV x v→RelV y u→r x y H Q →
  wpAny (model X.prog X.w) X.A (f v u) (EP X pins σ Q) X.xe s
def UnR (X:Cx) (f:Value→Sem Value) (r:V→Hp→VK→Prop):Prop :=
 ∀ (pins:List (Addr × Obj)) (s:Shared) (σ:St) (H:Hp) (x:V) (v:Value) (Q:VK),Inv X pins σ H s→RelV x v→r x H Q →
  wpAny (model X.prog X.w) X.A (f v) (EP X pins σ Q) X.xe s
def zAw (X:Cx) (f:Value) (r:List V→Hp→VK→Prop):Prop :=
 ∀ (pins:List (Addr × Obj)) (s:Shared) (σ:St) (H:Hp) (xs:List V) (us:List Value) (Q:VK),Inv X pins σ H s→Vals xs us→r xs H Q →
  wpAny (model X.prog X.w) X.A (call f us) (EP X pins σ Q) X.xe s
def TruR (X:Cx) (r:V→Hp→(Bool→Hp→Prop)→Prop):Prop :=
 ∀ (pins:List (Addr × Obj)) (s:Shared) (σ:St) (H:Hp) (x:V) (v:Value) (Q:Bool→Hp→Prop),Inv X pins σ H s→RelV x v→r x H Q →
  wpAny (model X.prog X.w) X.A (truthy v) (TP X pins σ Q) X.xe s
noncomputable def tOp (r:R2) (ta tb:TE):TE:=fun σ H Q=>ta σ H fun x H1=>tb σ H1 fun y H2=>r x y H2 Q
noncomputable def tUn (r:V→Hp→VK→Prop) (ta:TE):TE:=fun σ H Q=>ta σ H fun x H1=>r x H1 Q
noncomputable def rI (C:Int→Int→Prop) (g:Int→Int→V):R2:=fun x y H Q=>∃ i j,x=.int i∧y=.int j∧C i j∧Q (g i j) H
noncomputable def rI0 (g:Int→Int→V):R2:=fun x y H Q=>∃ i j,x=.int i∧y=.int j∧Q (g i j) H
noncomputable def rU (g:Int→V):V→Hp→VK→Prop:=fun x H Q=>∃ i,x=.int i∧Q (g i) H
section
variable {X:Cx}{a b c:Expr}{ta tb tc:TE}{pos:Pos}
theorem binT (ha:PE X a ta) (hb:PE X b tb) {pins:List (Addr × Obj)}{s:Shared}{σ:St}{H:Hp}{R:V→V→Hp→Prop} (I:Inv X pins σ H s)
  (h:ta σ H fun x H1=>tb σ H1 fun y H2=>R x y H2) {Q:Value→Shared→Prop}{f:Value→Value→Sem Value}
  (hf:∀ v u s2 x y H2,Inv X pins σ H2 s2→RelV x v→RelV y u→R x y H2→wpAny (model X.prog X.w) X.A (f v u) Q X.xe s2) :
  wpAny (model X.prog X.w) X.A (eval a X.env) (fun v s₁=>wpAny (model X.prog X.w) X.A (eval b X.env) (fun u s₂=>wpAny (model X.prog X.w) X.A (f v u) Q X.xe s₂) X.xe s₁) X.xe s:=by
 refine thn (ha pins s σ H _ I h) fun v s1 ⟨x,H1,I1,r1,q1⟩=>?_
 refine thn (hb pins s1 σ H1 _ I1 q1) fun u s2 ⟨y,H2,I2,r2,q2⟩=>?_
 exact hf v u s2 x y H2 I2 r1 r2 q2
theorem pe_op {op:Operator}{r:R2} (ho:OpR X (binaryOp op) r) (ha:PE X a ta) (hb:PE X b tb):PE X (.BinOp a op b pos) (tOp r ta tb):=by
 intro pins s σ H Q I h
 exact wpAny_BinOp (binT ha hb I h fun v u s2 x y H2 I2 rx ry q=>ho pins s2 σ H2 x y v u Q I2 rx ry q)
theorem pe_un {op:UnaryOp}{r:V→Hp→VK→Prop} (ho:UnR X (unaryOp op) r) (ha:PE X a ta):PE X (.UnaryOp op a pos) (tUn r ta):=by
 intro pins s σ H Q I h
 exact UnaryOp_ (thn (ha pins s σ H _ I h) fun v s1 ⟨x,H1,I1,r1,q1⟩=>ho pins s1 σ H1 x v Q I1 r1 q1)
theorem opI {f:Value→Value→Sem Value}{C:Int→Int→Prop}{g:Int→Int→Int}
  (rule:∀ (i j:Int) (t u:Tok) (s:Shared) (Q:Value→Shared→Prop) (E:Value→Shared→Prop),C i j→Q (.int (g i j) s.toks) { s with toks:=s.toks+1 }→wpAny (model X.prog X.w) X.A (f (.int i t) (.int j u)) Q E s) :
  OpR X f (rI C fun i j=>.int (g i j)):=by
 intro pins s σ H x y v u Q I rx ry h
 obtain ⟨i,j,rfl,rfl,hc,q⟩:=h
 obtain ⟨t,rfl⟩:=rx
 obtain ⟨t',rfl⟩:=ry
 exact rule i j t t' s _ _ hc ⟨.int (g i j),H,I.tok _,⟨_,rfl⟩,q⟩
theorem opI0 {f:Value→Value→Sem Value}{g:Int→Int→Int}
  (rule:∀ (i j:Int) (t u:Tok) (s:Shared) (Q:Value→Shared→Prop) (E:Value→Shared→Prop),Q (.int (g i j) s.toks) { s with toks:=s.toks+1 }→wpAny (model X.prog X.w) X.A (f (.int i t) (.int j u)) Q E s) :
  OpR X f (rI0 fun i j=>.int (g i j)):=by
 intro pins s σ H x y v u Q I rx ry h
 obtain ⟨i,j,rfl,rfl,q⟩:=h
 obtain ⟨t,rfl⟩:=rx
 obtain ⟨t',rfl⟩:=ry
 exact rule i j t t' s _ _ ⟨.int (g i j),H,I.tok _,⟨_,rfl⟩,q⟩
theorem opB0 {f:Value→Value→Sem Value}{g:Int→Int→Bool}
  (rule:∀ (i j:Int) (t u:Tok) (s:Shared) (Q:Value→Shared→Prop) (E:Value→Shared→Prop),Q (.bool (g i j)) s→wpAny (model X.prog X.w) X.A (f (.int i t) (.int j u)) Q E s) :
  OpR X f (rI0 fun i j=>.bl (g i j)):=by
 intro pins s σ H x y v u Q I rx ry h
 obtain ⟨i,j,rfl,rfl,q⟩:=h
 obtain ⟨t,rfl⟩:=rx
 obtain ⟨t',rfl⟩:=ry
 exact rule i j t t' s _ _ ⟨.bl (g i j),H,I,rfl,q⟩
def CDiv (i j:Int):Prop:=0<j∧j<1073741824
def CPow (i j:Int):Prop:=0≤j∧j≤1000000∧i.natAbs<2 ^ 64
def CMul (i j:Int):Prop:=(-(2 ^ 64)<i∧i<2 ^ 64)∨(-(2 ^ 64)<j∧j<2 ^ 64)
theorem CMul.ok {i j:Int} (h:CMul i j):IntMulOk i j:=by
 rcases h with ⟨h1,h2⟩ | ⟨h1,h2⟩
 ·exact .of_left (intBits_le_64 h1 h2)
 ·exact .of_right (intBits_le_64 h1 h2)
theorem zJq (k:Nat):(0:Int)≤2 ^ k:=by grind
theorem op_add:OpR X (binaryOp .Add) (rI0 fun i j=>.int (i+j)):=opI0 fun _ _ _ _ _ _ _ q=>add_int q
theorem op_sub:OpR X (binaryOp .Sub) (rI0 fun i j=>.int (i - j)):=opI0 fun _ _ _ _ _ _ _ q=>sub_int q
theorem op_mul:OpR X (binaryOp .Mult) (rI CMul fun i j=>.int (i*j)):=opI fun _ _ _ _ _ _ _ hc q=>mul_int q hc.ok
theorem zQK:OpR X (binaryOp .FloorDiv) (rI CDiv fun i j=>.int (i / j)):=opI fun i j _ _ _ _ _ hc q=>by
 have h1:=hc.1
 have h2:=hc.2
 exact floordiv_int (by omega) (by rw [Int.fdiv_eq_ediv_of_nonneg i (by omega)]; exact q) (.inl (PyProof.noPylong_small (by omega)))
theorem op_mod:OpR X (binaryOp .Mod) (rI (fun _ j=>0<j) fun i j=>.int (i % j)):=opI fun i j _ _ _ _ _ hc q=>by
 exact mod_int' (by lia) (by rw [Int.fmod_eq_emod_of_nonneg i (by lia)]; exact q)
theorem op_pow:OpR X (binaryOp .Pow) (rI CPow fun i j=>.int (i ^ j.toNat)):=opI fun _ _ _ _ _ _ _ hc q=>pow_int_small hc.1 hc.2.1 hc.2.2 q
theorem op_shl:OpR X (binaryOp .LShift) (rI CPow fun i j=>.int (i*2 ^ j.toNat)):=opI fun _ _ _ _ _ _ _ hc q=>lshift_int_small hc.1 hc.2.1 hc.2.2 q
theorem op_shr:OpR X (binaryOp .RShift) (rI (fun _ j=>0≤j) fun i j=>.int (i / 2 ^ j.toNat)):=opI fun i j _ _ _ _ _ hc q =>
 rshift_int hc (by rw [Int.fdiv_eq_ediv_of_nonneg i (zJq _)]; exact q)
theorem op_and:OpR X (binaryOp .BitAnd) (rI0 fun i j=>.int (Builtin.bitAnd i j)):=opI0 fun _ _ _ _ _ _ _ q=>and_int q
theorem op_or:OpR X (binaryOp .BitOr) (rI0 fun i j=>.int (Builtin.bitOr i j)):=opI0 fun _ _ _ _ _ _ _ q=>or_int q
theorem op_xor:OpR X (binaryOp .BitXor) (rI0 fun i j=>.int (Builtin.bitXor i j)):=opI0 fun _ _ _ _ _ _ _ q=>xor_int q
theorem unI {f:Value→Sem Value}{g:Int→Int}
  (rule:∀ (i:Int) (t:Tok) (s:Shared) (Q:Value→Shared→Prop) (E:Value→Shared→Prop),Q (.int (g i) s.toks) { s with toks:=s.toks+1 }→wpAny (model X.prog X.w) X.A (f (.int i t)) Q E s) :
  UnR X f (rU fun i=>.int (g i)):=by
 intro pins s σ H x v Q I rx h
 obtain ⟨i,rfl,q⟩:=h
 obtain ⟨t,rfl⟩:=rx
 exact rule i t s _ _ ⟨.int (g i),H,I.tok _,⟨_,rfl⟩,q⟩
theorem un_neg:UnR X (unaryOp .USub) (rU fun i=>.int (-i)):=unI fun _ _ _ _ _ q=>neg_int q
end
noncomputable def scal:V→V→Bool
 | .non,.non=>true | .non,.int _=>true | .int _,.non=>true | .non,.bl _=>true | .bl _,.non=>true | .non,.str _=>true | .str _,.non=>true
 | .int _,.int _=>true | .bl _,.bl _=>true | .str _,.str _=>true | .byt _,.byt _=>true
 | .int _,.str _=>true | .str _,.int _=>true | .bl _,.str _=>true | .str _,.bl _=>true
 | _,_=>false
noncomputable def rEq:R2:=fun x y H Q=>scal x y=true∧Q (.bl (decide (x=y))) H
noncomputable def rNe:R2:=fun x y H Q=>scal x y=true∧Q (.bl (!decide (x=y))) H
theorem zMa {i j:Int}:decide (V.int i=V.int j)=(i == j):=by grind
theorem zPu {i j:Bool}:decide (V.bl i=V.bl j)=(i == j):=by grind
theorem zM9 {i j:Str}:decide (V.str i=V.str j)=(i == j):=by grind
theorem zMb {i j:Array UInt8}:decide (V.byt i=V.byt j)=(i.toList == j.toList):=by
 rw [Bool.eq_iff_iff]
 cases i
 cases j
 simp
section
variable {X:Cx}{a b c:Expr}{ta tb tc:TE}{pos:Pos}
theorem zAg {pins:List (Addr × Obj)}{σ:St}{H:Hp}{s:Shared}{Q:VK}{k k':Bool} (I:Inv X pins σ H s) (q:Q (.bl k) H) (e:k=k'):EP X pins σ Q (.bool k') s:=by
 subst e
 exact ⟨.bl k,H,I,rfl,q⟩
theorem op_eq:OpR X (compareOp .Eq) rEq:=by
 intro pins s σ H x y v u Q I rx ry h
 obtain ⟨hs,q⟩:=h
 cases x with
 | non =>
  cases rx
  cases y with
  | non=>cases ry; exact PySem.EqNone.eq_none_none (zAg I q (by simp))
  | bl j=>cases ry; exact PySem.EqNone.eq_none_bool (zAg I q (by simp))
  | int j=>obtain ⟨t',rfl⟩:=ry; exact PySem.EqNone.eq_none_int (zAg I q (by simp))
  | str j=>obtain ⟨t',rfl⟩:=ry; exact PySem.EqNone.eq_none_str (zAg I q (by simp))
  | _=>exact absurd (show false=true from hs) Bool.false_ne_true
 | bl i =>
  cases rx
  cases y with
  | non=>cases ry; exact PySem.EqNone.eq_bool_none (zAg I q (by simp))
  | bl j=>cases ry; exact eq_bool (zAg I q zPu)
  | str j=>obtain ⟨t',rfl⟩:=ry; exact PySem.EqMixed.eq_bool_str (zAg I q (by simp))
  | _=>exact absurd (show false=true from hs) Bool.false_ne_true
 | int i =>
  obtain ⟨t,rfl⟩:=rx
  cases y with
  | non=>cases ry; exact PySem.EqNone.eq_int_none (zAg I q (by simp))
  | int j=>obtain ⟨t',rfl⟩:=ry; exact eq_int (zAg I q zMa)
  | str j=>obtain ⟨t',rfl⟩:=ry; exact PySem.EqMixed.eq_int_str (zAg I q (by simp))
  | _=>exact absurd (show false=true from hs) Bool.false_ne_true
 | str i =>
  obtain ⟨t,rfl⟩:=rx
  cases y with
  | non=>cases ry; exact PySem.EqNone.eq_str_none (zAg I q (by simp))
  | bl j=>cases ry; exact PySem.EqMixed.eq_str_bool (zAg I q (by simp))
  | int j=>obtain ⟨t',rfl⟩:=ry; exact PySem.EqMixed.eq_str_int (zAg I q (by simp))
  | str j=>obtain ⟨t',rfl⟩:=ry; exact eq_str (zAg I q zM9)
  | _=>exact absurd (show false=true from hs) Bool.false_ne_true
 | byt i =>
  obtain ⟨t,rfl⟩:=rx
  cases y with
  | byt j=>obtain ⟨t',rfl⟩:=ry; exact W.eq_bytes (zAg I q zMb)
  | _=>exact absurd (show false=true from hs) Bool.false_ne_true
 | _=>cases y <;> exact absurd (show false=true from hs) Bool.false_ne_true
theorem op_ne:OpR X (compareOp .NotEq) rNe:=by
 intro pins s σ H x y v u Q I rx ry h
 obtain ⟨hs,q⟩:=h
 cases x with
 | non =>
  cases rx
  cases y with
  | non=>cases ry; exact PySem.EqNone.ne_none_none (zAg I q (by simp))
  | bl j=>cases ry; exact PySem.EqNone.ne_none_bool (zAg I q (by simp))
  | int j=>obtain ⟨t',rfl⟩:=ry; exact PySem.EqNone.ne_none_int (zAg I q (by simp))
  | str j=>obtain ⟨t',rfl⟩:=ry; exact PySem.EqNone.ne_none_str (zAg I q (by simp))
  | _=>exact absurd (show false=true from hs) Bool.false_ne_true
 | bl i =>
  cases rx
  cases y with
  | non=>cases ry; exact PySem.EqNone.ne_bool_none (zAg I q (by simp))
  | bl j=>cases ry; exact ne_bool (zAg I q (congrArg not zPu))
  | str j=>obtain ⟨t',rfl⟩:=ry; exact PySem.EqMixed.ne_bool_str (zAg I q (by simp))
  | _=>exact absurd (show false=true from hs) Bool.false_ne_true
 | int i =>
  obtain ⟨t,rfl⟩:=rx
  cases y with
  | non=>cases ry; exact PySem.EqNone.ne_int_none (zAg I q (by simp))
  | int j=>obtain ⟨t',rfl⟩:=ry; exact ne_int (zAg I q (congrArg not zMa))
  | str j=>obtain ⟨t',rfl⟩:=ry; exact PySem.EqMixed.ne_int_str (zAg I q (by simp))
  | _=>exact absurd (show false=true from hs) Bool.false_ne_true
 | str i =>
  obtain ⟨t,rfl⟩:=rx
  cases y with
  | non=>cases ry; exact PySem.EqNone.ne_str_none (zAg I q (by simp))
  | bl j=>cases ry; exact PySem.EqMixed.ne_str_bool (zAg I q (by simp))
  | int j=>obtain ⟨t',rfl⟩:=ry; exact PySem.EqMixed.ne_str_int (zAg I q (by simp))
  | str j=>obtain ⟨t',rfl⟩:=ry; exact ne_str (zAg I q (congrArg not zM9))
  | _=>exact absurd (show false=true from hs) Bool.false_ne_true
 | byt i =>
  obtain ⟨t,rfl⟩:=rx
  cases y with
  | byt j=>obtain ⟨t',rfl⟩:=ry; exact W.ne_bytes (zAg I q (congrArg not zMb))
  | _=>exact absurd (show false=true from hs) Bool.false_ne_true
 | _=>cases y <;> exact absurd (show false=true from hs) Bool.false_ne_true
theorem op_lt:OpR X (compareOp .Lt) (rI0 fun i j=>.bl (decide (i<j))):=opB0 fun _ _ _ _ _ _ _ q=>lt_int q
theorem op_le:OpR X (compareOp .LtE) (rI0 fun i j=>.bl (decide (i≤j))):=opB0 fun _ _ _ _ _ _ _ q=>le_int q
theorem op_gt:OpR X (compareOp .Gt) (rI0 fun i j=>.bl (decide (j<i))):=opB0 fun _ _ _ _ _ _ _ q=>gt_int q
theorem op_ge:OpR X (compareOp .GtE) (rI0 fun i j=>.bl (decide (j≤i))):=opB0 fun _ _ _ _ _ _ _ q=>ge_int q
theorem zLa:OpR X (compareOp .In) (fun x y H Q=>∃ i j,x=.str i∧y=.str j∧Q (.bl (!(Builtin.Str.occurrences j i 0 j.length 1).isEmpty)) H):=by
 intro pins s σ H x y v u Q I rx ry h
 obtain ⟨i,j,rfl,rfl,q⟩:=h
 obtain ⟨t,rfl⟩:=rx
 obtain ⟨t',rfl⟩:=ry
 exact in_str (zAg I q rfl)
theorem op_isN:OpR X (compareOp .Is) (fun x y H Q=>y=.non∧Q (.bl (decide (x=.non))) H):=by
 intro pins s σ H x y v u Q I rx ry h
 obtain ⟨rfl,q⟩:=h
 cases ry
 refine is_none_gen (zAg I q ?_)
 cases x <;> first
  | (cases rx; rfl)
  | (obtain ⟨t,rfl⟩:=rx; rfl)
theorem zQI:OpR X (compareOp .IsNot) (fun x y H Q=>y=.non∧Q (.bl (!decide (x=.non))) H):=by
 intro pins s σ H x y v u Q I rx ry h
 obtain ⟨rfl,q⟩:=h
 cases ry
 refine isnot_none_gen (zAg I q ?_)
 cases x <;> first
  | (cases rx; rfl)
  | (obtain ⟨t,rfl⟩:=rx; rfl)
theorem zQD {op:CmpOp}{r:R2} (ho:OpR X (compareOp op) r) (ha:PE X a ta) (hb:PE X b tb) (hm:behindInMarks op b=false):PE X (.Compare a [op] [b] pos) (tOp r ta tb):=by
 intro pins s σ H Q I h
 exact wpAny_Compare1 (binT ha hb I h fun v u s2 x y H2 I2 rx ry q=>ho pins s2 σ H2 x y v u Q I2 rx ry q) hm
noncomputable def zPH (t:TE):TT:=fun σ H Q=>t σ H fun x H'=>∃ k,x=.bl k∧Q k H'
theorem zQo {op:CmpOp}{r:R2} (ho:OpR X (compareOp op) r) (ha:PE X a ta) (hb:PE X b tb) (hm:behindInMarks op b=false):PT X (.Compare a [op] [b] pos) (zPH (tOp r ta tb)):=by
 intro pins s σ H Q I h
 refine wpAny_isTrue_Compare1 (thn (ha pins s σ H _ I h) fun v s1 ⟨x,H1,I1,r1,q1⟩=>thn (hb pins s1 σ H1 _ I1 q1) fun u s2 ⟨y,H2,I2,r2,q2⟩ =>
  thn (ho pins s2 σ H2 x y v u _ I2 r1 r2 q2) fun c s3 ⟨z,H3,I3,r3,k,e,q3⟩=>?_) hm
 subst e
 cases r3
 exact wpAny_truthy_bool ⟨H3,I3,q3⟩
noncomputable def zKy (r r':R2) (ta tb tc:TE):TE:=fun σ H Q=>ta σ H fun x H1=>tb σ H1 fun y H2=>r x y H2 fun z H3=>∃ k,z=.bl k ∧
 (if k=true then tc σ H3 fun w' H4=>r' y w' H4 Q else Q (.bl false) H3)
theorem zNL {op op':CmpOp}{r r':R2} (ho:OpR X (compareOp op) r) (ho':OpR X (compareOp op') r') (ha:PE X a ta) (hb:PE X b tb) (hc:PE X c tc)
  (hm:lastMarks [op,op'] [b,c]=false:=by with_unfolding_all rfl):PE X (.Compare a [op,op'] [b,c] pos) (zKy r r' ta tb tc):=by
 intro pins s σ H Q I h
 refine Compare_chain (thn (ha pins s σ H _ I h) fun v s1 ⟨x,H1,I1,r1,q1⟩=>chain_link (thn (hb pins s1 σ H1 _ I1 q1) fun u s2 ⟨y,H2,I2,r2,q2⟩ =>
  thn (ho pins s2 σ H2 x y v u _ I2 r1 r2 q2) fun d s3 ⟨z,H3,I3,r3,k,e,q3⟩=>?_)) hm
 subst e
 cases r3
 refine wpAny_truthy_bool ?_
 cases k with
 | false=>exact ite_ff ⟨.bl false,H3,I3,rfl,q3⟩
 | true=>exact ite_tt (chain_last (thn (hc pins s3 σ H3 _ I3 q3) fun w' s4 ⟨z',H4,I4,r4,q4⟩=>ho' pins s4 σ H4 y z' u w' Q I4 r2 r4 q4))
theorem zNy {op op':CmpOp}{r r':R2} (ho:OpR X (compareOp op) r) (ho':OpR X (compareOp op') r') (ha:PE X a ta) (hb:PE X b tb) (hc:PE X c tc)
  (hm:lastMarks [op,op'] [b,c]=false:=by with_unfolding_all rfl):PT X (.Compare a [op,op'] [b,c] pos) (zPH (zKy r r' ta tb tc)):=by
 intro pins s σ H Q I h
 refine isTrue_chain (thn (ha pins s σ H _ I h) fun v s1 ⟨x,H1,I1,r1,q1⟩=>test_link (thn (hb pins s1 σ H1 _ I1 q1) fun u s2 ⟨y,H2,I2,r2,q2⟩ =>
  thn (ho pins s2 σ H2 x y v u _ I2 r1 r2 q2) fun d s3 ⟨z,H3,I3,r3,k,e,q3⟩=>?_)) hm
 subst e
 cases r3
 refine wpAny_truthy_bool ?_
 cases k with
 | false =>
  obtain ⟨k',e',q'⟩:=q3
  cases e'
  exact ite_ff ⟨H3,I3,q'⟩
 | true =>
  refine ite_tt (test_last (thn (hc pins s3 σ H3 _ I3 q3) fun w' s4 ⟨z',H4,I4,r4,q4⟩=>thn (ho' pins s4 σ H4 y z' u w' _ I4 r2 r4 q4) fun d' s5 ⟨z2,H5,I5,r5,k2,e2,q5⟩=>?_))
  subst e2
  cases r5
  exact wpAny_truthy_bool ⟨H5,I5,q5⟩
def TruV (K:W.Frag) (x:V) (H:Hp) (k:Bool):Prop :=
 match x with
 | .non=>k=false
 | .bl b=>k=b
 | .int i=>k=(i != 0)
 | .str y=>y.length≤sizeLine∧k=((y.length:Int) != 0)
 | .byt y=>y.size≤sizeLine∧k=((y.size:Int) != 0)
 | .ref p=>(∃ xs,SqL K H p xs∧k=!xs.isEmpty)∨(∃ xs,SqT K H p xs∧k=!xs.isEmpty)∨∃ kvs,H p=some (.dK kvs)∧k=!kvs.isEmpty
 | _=>False
theorem zJL {κ:Type}{kvs:List (κ × V)}{vs:List (κ × Value)} (r:KV kvs vs):(!vs.isEmpty)=!kvs.isEmpty:=by
 cases r <;> rfl
theorem zFu {xs:List V}{its:List Value} (r:Vals xs its):(!its.toArray.isEmpty)=!xs.isEmpty:=by
 cases r <;> simp
theorem zFr:(sizeLine:Nat)<2 ^ 63:=by decide
theorem tru_ok:TruR X (fun x H Q=>∃ k,TruV X.K x H k∧Q k H):=by
 intro pins s σ H x v Q I rx h
 obtain ⟨k,e,q⟩:=h
 have hs:=sizeLine_eq
 cases x with
 | non =>
  cases rx
  have e':k=false:=e
  subst e'
  exact truthy_none ⟨H,I,q⟩
 | bl b =>
  cases rx
  have e':k=b:=e
  subst e'
  exact wpAny_truthy_bool ⟨H,I,q⟩
 | int i =>
  obtain ⟨t,rfl⟩:=rx
  have e':=e
  subst e'
  exact PySem.P.truthy_int ⟨H,I,q⟩
 | str y =>
  obtain ⟨t,rfl⟩:=rx
  obtain ⟨hy,e'⟩:y.length≤sizeLine∧k=((y.length:Int) != 0):=e
  subst e'
  exact PySem.P.truthy_str (by lia) ⟨H,I.tok _,q⟩
 | byt y =>
  obtain ⟨t,rfl⟩:=rx
  obtain ⟨hy,e'⟩:y.size≤sizeLine∧k=((y.size:Int) != 0):=e
  subst e'
  exact W.truthy_bytes (by lia) ⟨H,I.tok _,q⟩
 | ref p =>
  cases rx
  have e':=e
  rcases e' with ⟨xs,hx,e'⟩ | ⟨xs,hx,e'⟩ | ⟨kvs,hx,e'⟩
  ·subst e'
   obtain ⟨its,r,pl,hz⟩:=I.list hx
   have hlen:=r.length
   exact wpAny_truthy_list pl.isList (by simp only [List.size_toArray]; lia) ⟨H,I.tok _,by rw [zFu r]; exact q⟩
  ·subst e'
   obtain ⟨its,r,pl,hz⟩:=I.tuple hx
   have hlen:=r.length
   exact truthy_tuple pl (by simp only [List.size_toArray]; lia) ⟨H,I.tok _,by rw [zFu r]; exact q⟩
  ·subst e'
   obtain ⟨hz,hS,vs,r,m⟩:kvs.length≤sizeLine∧(p == sysModules)=false∧∃ vs,KV kvs vs∧s.heap.DictOf (zA8 X.prog X.w) p vs:=I.hok p _ hx
   have hlen:=Paired.length r
   exact wpAny_truthy_dict hS m (by lia) ⟨H,I.tok _,by rw [zJL r]; exact q⟩
 | _=>exact (e).elim
theorem zNx (ha:PE X a ta) (he:∀ whole,isTrue a X.env whole=(do let v ← whole; standAt a.pos; holding [v] (truthy v))) :
  PT X a (fun σ H Q=>ta σ H fun x H'=>∃ k,TruV X.K x H' k∧Q k H'):=by
 intro pins s σ H Q I h
 exact isTrue_plain (thn (ha pins s σ H _ I h) fun v s1 ⟨x,H1,I1,r1,q1⟩=>tru_ok pins s1 σ H1 x v Q I1 r1 q1) (he _)
theorem zJF:OpR X (binaryOp .Add) (fun x y H Q=>∃ i j,x=.str i∧y=.str j∧i.length+j.length≤sizeLine∧Q (.str (i++j)) H):=by
 intro pins s σ H x y v u Q I rx ry h
 obtain ⟨i,j,rfl,rfl,hz,q⟩:=h
 obtain ⟨t,rfl⟩:=rx
 obtain ⟨t',rfl⟩:=ry
 exact add_str (fun t' tk=>⟨.str (i++j),H,I.tok _,⟨_,rfl⟩,q⟩) hz
theorem zBm {x:V}{us:List Value} (r:Vals [x] us):∃ u,us=[u]∧RelV x u:=by
 cases r with
 | cons r1 r2=>cases r2; exact ⟨_,rfl,r1⟩
theorem zJp {x y:V}{us:List Value} (r:Vals [x,y] us):∃ u w',us=[u,w']∧RelV x u∧RelV y w':=by
 cases r with
 | cons r1 r2 =>
  cases r2 with
  | cons r3 r4=>cases r4; exact ⟨_,_,rfl,r1,r3⟩
theorem zMA (hc:X.calm=true):zAw X (.builtin "max") (fun xs H Q=>∃ i j,xs=[.int i,.int j]∧Q (.int (if j>i then j else i)) H):=by
 intro pins s σ H xs us Q I r h
 obtain ⟨i,j,rfl,q⟩:=h
 obtain ⟨u,w',rfl,⟨t,rfl⟩,⟨t',rfl⟩⟩:=zJp r
 refine max_two_ints (I.ok.hd hc) fun h' tk k=>⟨_,H,I.kept k,?_,q⟩
 by_cases hj:j>i
 ·rw [if_pos hj,if_pos hj]; exact ⟨_,rfl⟩
 ·rw [if_neg hj,if_neg hj]; exact ⟨_,rfl⟩
theorem zMy (hc:X.calm=true):zAw X (.builtin "min") (fun xs H Q=>∃ i j,xs=[.int i,.int j]∧Q (.int (if j<i then j else i)) H):=by
 intro pins s σ H xs us Q I r h
 obtain ⟨i,j,rfl,q⟩:=h
 obtain ⟨u,w',rfl,⟨t,rfl⟩,⟨t',rfl⟩⟩:=zJp r
 refine min_two_ints (I.ok.hd hc) fun h' tk k=>⟨_,H,I.kept k,?_,q⟩
 by_cases hj:j<i
 ·rw [if_pos hj,if_pos hj]; exact ⟨_,rfl⟩
 ·rw [if_neg hj,if_neg hj]; exact ⟨_,rfl⟩
theorem zHn:zAw X (.type "int") (fun xs H Q=>(∃ i,xs=[.int i]∧Q (.int i) H)∨∃ k,xs=[.bl k]∧Q (.int (if k then 1 else 0)) H):=by
 intro pins s σ H xs us Q I r h
 rcases h with ⟨i,rfl,q⟩ | ⟨k,rfl,q⟩
 ·obtain ⟨u,rfl,t,rfl⟩:=zBm r
  exact call_int_int ⟨.int i,H,I,⟨_,rfl⟩,q⟩
 ·obtain ⟨u,rfl,r1⟩:=zBm r
  cases r1
  exact call_int_bool ⟨.int (if k then 1 else 0),H,I.tok _,⟨_,rfl⟩,q⟩
theorem zHh:zAw X (.type "str") (fun xs H Q=>∃ i,xs=[.int i]∧i.natAbs.log2<1920∧Q (.str (toString i)) H):=by
 intro pins s σ H xs us Q I r h
 obtain ⟨i,rfl,hz,q⟩:=h
 obtain ⟨u,rfl,t,rfl⟩:=zBm r
 exact PySem.P.str_of_int hz ⟨.str _,H,I.tok _,⟨_,rfl⟩,q⟩
end
structure ObjM (h:Heap) (x dx C:Addr) (mA:Str→Option Value):Prop where
 obj:h.get? x=some (W.instObj C dx)
 ns:h.Ns1 dx mA
 ne:dx≠x
theorem zLt {h:Heap}{dx:Addr}{mA:Str→Option Value} (n:h.Ns1 dx mA):∃ od,h.get? dx=some od∧∀ name,W.lookIn name od=some (mA name):=by
 obtain ⟨o,es,ep,ho,hd,hk,_,hm⟩:=n
 refine ⟨o,ho,fun name=>?_⟩
 have e:=hm name
 unfold nsFind findBy at e
 rw [← Array.find?_toList] at e
 unfold W.lookIn
 rw [hd]
 dsimp only
 split
 ·rename_i y q
  rw [q] at e
  exact congrArg some e
 ·rename_i q
  rw [q] at e
  have a:es.toList.any (·.refKey)=false:=by
   rw [List.any_eq_false]
   intro y hy
   obtain ⟨z,t,hkey⟩:=hk y (Array.mem_toList_iff.mp hy)
   simp [DictEntry.refKey,hkey]
  have a':¬ es.toList.any (·.refKey)=true:=by rw [a]; exact Bool.false_ne_true
  rw [if_neg a']
  exact congrArg some e
theorem ObjM.look {h:Heap}{x dx C:Addr}{mA:Str→Option Value} (I:ObjM h x dx C mA):∃ od,W.InstAt h x (W.instObj C dx) C (some od)∧∀ name,W.lookIn name od=some (mA name) :=
 let ⟨od,ho,hl⟩:=zLt I.ns
 ⟨od,⟨I.obj,rfl,rfl,ho⟩,hl⟩
section
variable {prog:Program}{w:World}{A:Around}{E:Value→Shared→Prop}{s:Shared}{K:W.Frag}{x dx C f:Addr}{mA:Str→Option Value}{name:Str}{v:Value}
theorem get_map {expr:Bool}{Q:Value→Shared→Prop} (X:K.In s.heap) (I:ObjM s.heap x dx C mA) (hg:W.plainGet K C name=true) (hh:W.hasDictIn K C=true)
  (ha:W.findIn K (.ref C) name=some none) (hv:mA name=some v) (hv':W.handedIn v=true) (h:Q v { s with toks:=s.toks+1 }) :
  wpAny (model prog w) A (getAttr (.ref x) name expr) Q E s:=by
 obtain ⟨od,J,hl⟩:=I.look
 exact W.get_value X J (W.plainGet_of hg).1 (W.findObj_own hh ha rfl (by rw [hl,hv])) hv' h
theorem zOB {pl:Sem Bool}{Q:Value × List Value→Shared→Prop} (X:K.In s.heap) (I:ObjM s.heap x dx C mA) (hg:W.plainGet K C name=true)
  (hf:W.findIn K (.ref C) name=some (some (.ref f))) (ht:W.isFn K (.ref f)=true) (hv:mA name=none) (h:Q (.ref f,[.ref x]) s) :
  wpAny (model prog w) A (getMethod (.ref x) name pl) Q E s:=by
 obtain ⟨od,J,hl⟩:=I.look
 exact W.method_fn X J (W.plainGet_of hg).1 (W.plainGet_of hg).2 hf (beq_iff_eq.mp ht) (by show (W.lookIn name od).map (·.isSome)=some false; rw [hl,hv]; rfl) h
theorem zPZ {ns:List Str}{Q:Unit→Shared→Prop} (X:K.In s.heap) (I:ObjM s.heap x dx C mA)
  (hs:W.findIn K (.ref C) "__setattr__"=some (some (.builtin "object.__setattr__"))) (hp:W.plainOver K C=true) (ht:W.takerIn K C name=some none) (hh:W.hasDictIn K C=true)
  (hw:PySem.Within mA ns) (hsz:ns.length≤sizeLine)
  (h:∀ h',ObjM h' x dx C (fun y=>if y=name then some v else mA y)→Heap.SameBut dx s.heap h'→Q () { s with heap:=h',toks:=s.toks+2 }) :
  wpAny (model prog w) A (setAttr (.ref x) name v) Q E s:=by
 obtain ⟨od,J,hl⟩:=I.look
 refine W.set_plain X J hs (W.osa_open (s:={ s with toks:=s.toks+1 }) (r:=none) X J hp ht fun b=>?_)
 obtain ⟨cd,hc,hd'⟩:=W.any_some hh
 have hx:s.heap.get? x=some ⟨.ref C,some dx,.plain,#[]⟩:=I.obj
 refine wpAny_bind (wpAny_pure (wpAny_bind (wpAny_bind (wpAny_loadPart hx (wpAny_bind (W.Looks.here (s:={ s with toks:=s.toks+1 }) (W.looks_clsIn X hc) ?_))))))
 rw [hd']
 refine wpAny_pure (a:=some dx) (wpAny_bind (wpAny_pure (wpAny_bind ?_)))
 refine wpAny_nsSet1 (s:={ s with toks:=s.toks+1 }) I.ns fun h' hn2 hs2=>?_
 obtain ⟨oD,esD,epD,hoD,hdD,hcD⟩:=hn2.count (PySem.Within.cons name v hw)
 refine wpAny_bind (wpAny_lookBehind hoD (by rw [hdD]; exact pastItsLine_dict (Nat.le_trans hcD (by rw [List.length_cons]; lia))) ?_)
 exact wpAny_pure (h _ ⟨(hs2.2 _ (Ne.symm I.ne)).trans I.obj,hn2,I.ne⟩ hs2)
theorem zO6 {R:Result→Shared→Prop}{vs:List Value}{kw:List (Str × Value)} (X:K.In s.heap) (hm:W.makesIn K C=true)
  (hi:W.findIn K (.ref C) "__init__"=some (some (.ref f))) (hf:W.typeIn K (.ref f)=some (.type "function"))
  (h:codeAny (model prog w) (A.under (.builtin "type.__call__" ⟨.ref C::vs,kw⟩)) (.call (.ref f) ⟨.ref (s.heap.objs.size+1)::vs,kw⟩) (W.InitBack (s.heap.objs.size+1) R)
   { s with heap:=(s.heap.push W.emptyDict).push (W.instObj C s.heap.objs.size) }) :
  codeAny (model prog w) A (.call (.ref C) ⟨vs,kw⟩) R s:=by
 obtain ⟨hh,g,d,t,os⟩:=s
 exact W.make_core (W.makes_of X hm) (W.looks_findIn X hi) (fun self=>W.bind_fn X self hf) (.inl rfl) h
end
noncomputable def putF (f:Str) (v:V):List (Str × V)→List (Str × V)
 | []=>[(f,v)]
 | (g,x)::r=>if g=f then (g,v)::r else (g,x)::putF f v r
theorem zE3 (f g:Str) (v:V):∀ fs:List (Str × V),(putF f v fs).lookup g=if g=f then some v else fs.lookup g
 | []=>by
  show List.lookup g [(f,v)]=_
  by_cases h:g=f
  ·have hb:(g == f)=true:=beq_iff_eq.mpr h
   simp only [List.lookup,hb,if_pos h]
  ·have hb:(g == f)=false:=beq_eq_false_iff_ne.mpr h
   simp only [List.lookup,hb,if_neg h]
 | (k,x)::r=>by
  have ih:=zE3 f g v r
  rw [show putF f v ((k,x)::r)=(if k=f then (k,v)::r else (k,x)::putF f v r) from rfl]
  by_cases hk:k=f
  ·rw [if_pos hk]
   by_cases h:g=k
   ·have hb:(g == k)=true:=beq_iff_eq.mpr h
    simp only [List.lookup,hb,if_pos (h.trans hk)]
   ·have hb:(g == k)=false:=beq_eq_false_iff_ne.mpr h
    simp only [List.lookup,hb,if_neg (fun e:g=f=>h (e.trans hk.symm))]
  ·rw [if_neg hk]
   by_cases h:g=k
   ·have hb:(g == k)=true:=beq_iff_eq.mpr h
    simp only [List.lookup,hb,if_neg (fun e:g=f=>hk (h.symm.trans e))]
   ·have hb:(g == k)=false:=beq_eq_false_iff_ne.mpr h
    simp only [List.lookup,hb]
    exact ih
theorem zE8 (f:Str) (v:V):∀ fs:List (Str × V),f∈(putF f v fs).map (·.1)∧∀ g,g∈fs.map (·.1)→g∈(putF f v fs).map (·.1)
 | []=>⟨by simp [putF],fun g h=>by simp at h⟩
 | (k,x)::r=>by
  obtain ⟨i1,i2⟩:=zE8 f v r
  rw [show putF f v ((k,x)::r)=(if k=f then (k,v)::r else (k,x)::putF f v r) from rfl]
  by_cases hk:k=f
  ·rw [if_pos hk]
   subst hk
   exact ⟨by simp,fun g h=>by simpa using h⟩
  ·rw [if_neg hk]
   refine ⟨?_,fun g h=>?_⟩
   ·rw [List.map_cons]
    exact List.mem_cons_of_mem _ i1
   ·rw [List.map_cons] at h ⊢
    rcases List.mem_cons.mp h with e | e
    ·exact List.mem_cons.mpr (.inl e)
    ·exact List.mem_cons_of_mem _ (i2 g e)
theorem zE4 (f:Str) (v:V):∀ fs:List (Str × V),(putF f v fs).length≤fs.length+1
 | []=>by simp [putF]
 | (k,x)::r=>by
  have ih:=zE4 f v r
  rw [show putF f v ((k,x)::r)=(if k=f then (k,v)::r else (k,x)::putF f v r) from rfl]
  by_cases hk:k=f
  ·rw [if_pos hk,List.length_cons,List.length_cons]; lia
  ·rw [if_neg hk,List.length_cons,List.length_cons]; lia
theorem RelO.some_of {v:V}{o:Option Value} (r:RelO (some v) o):∃ u,o=some u∧RelV v u:=by
 cases o with
 | none=>exact (r).elim
 | some u=>exact ⟨u,rfl,r⟩
theorem RelO.none_of {o:Option Value} (r:RelO none o):o=none:=by
 cases o with
 | none=>rfl
 | some u=>exact (show False from r).elim
theorem zLN {v:V}{u:Value} (r:RelV v u):W.handedIn u=true:=by
 cases v with
 | non=>cases (show u=Value.none from r); rfl
 | bl b=>cases (show u=Value.bool b from r); rfl
 | int i=>obtain ⟨t,e⟩:=(show ∃ t,u=Value.int i t from r); cases e; rfl
 | str x=>obtain ⟨t,e⟩:=(show ∃ t,u=Value.str x t from r); cases e; rfl
 | byt b=>obtain ⟨t,e⟩:=(show ∃ t,u=Value.bytes b t from r); cases e; rfl
 | flt b=>obtain ⟨t,e⟩:=(show ∃ t,u=Value.float b t from r); cases e; rfl
 | ref a=>cases (show u=Value.ref a from r); rfl
 | ty n=>cases (show u=Value.type n from r); rfl
section
variable {P:Program}{w:World}{H H':Hp}{h h':Heap}{a C dx:Addr}{fs fs':List (Str × V)}
theorem ins_get (hok:HOk P w H h) (e:H a=some (.ins C dx fs)):∃ mA,ObjM h a dx C mA∧(∀ f,RelO (fs.lookup f) (mA f))∧PySem.Within mA (fs.map (·.1))∧fs.length≤1000∧H dx=some (.own a):=by
 obtain ⟨d,z,ne,ob,mA,n,r,q⟩:=(show zAV P w H h a (.ins C dx fs) from hok a _ e)
 exact ⟨mA,⟨ob,n,ne⟩,r,q,z,d⟩
end
structure Cls (K:W.Frag) (C:Addr):Prop where
 pg:W.plainGet K C Str.empty=true
 hd:W.hasDictIn K C=true
 po:W.plainOver K C=true
 sa:W.findIn K (.ref C) "__setattr__"=some (some (.builtin "object.__setattr__"))
theorem Cls.get {K:W.Frag}{C:Addr} (c:Cls K C) (f:Str):W.plainGet K C f=true:=c.pg
def zBW (K:W.Frag) (C:Addr) (f:Str):Prop:=W.findIn K (.ref C) f=some none
theorem zBW.taker {K:W.Frag}{C:Addr}{f:Str} (n:zBW K C f):W.takerIn K C f=some none:=by
 unfold W.takerIn
 rw [show W.findIn K (.ref C) f=some none from n]
 rfl
structure Meth (K:W.Frag) (C:Addr) (m:Str) (f:Addr):Prop where
 at_:W.findIn K (.ref C) m=some (some (.ref f))
 fn:W.isFn K (.ref f)=true
 kp:W.keepIn K (.ref f)=true
section
variable {X:Cx}{pins:List (Addr × Obj)}{σ:St}{H:Hp}{s:Shared}{a C dx:Addr}{fs:List (Str × V)}{f:Str}{v:V}{A:Around}{E:Value→Shared→Prop}
theorem zJy {y:V}{u:Value}{Q:Unit→Shared→Prop} (I:Inv X pins σ H s) (e:H a=some (.ins C dx fs)) (c:Cls X.K C) (n:zBW X.K C f) (hl:fs.length<1000) (ry:RelV y u)
  (h:∀ s',Inv X pins σ (upd H a (.ins C dx (putF f y fs))) s'→Q () s'):wpAny (model X.prog X.w) A (setAttr (.ref a) f u) Q E s:=by
 obtain ⟨mA,O,r,wi,_,ho⟩:=ins_get I.hok e
 have hz:(fs.map (·.1)).length≤sizeLine:=by rw [List.length_map,sizeLine_eq]; lia
 refine zPZ I.kIn O c.sa c.po n.taker c.hd wi hz fun h' O' sb=>h _ ?_
 have hd:∃ o,h'.get? dx=some o:=let ⟨o,_,_,e',_⟩:=O'.ns; ⟨o,e'⟩
 refine I.write (x:=a) (e:=dx) (by rw [e]; exact True.intro) (.inr ho) (fun b q hb z=>(sb.2 b hb).trans z) hd ?_
 refine ⟨by rw [zA5 O.ne]; exact ho,?_,O.ne,O'.obj,_,O'.ns,fun g=>?_,fun g hg=>?_⟩
 ·have:=zE4 f y fs; lia
 ·show RelO ((putF f y fs).lookup g) (if g=f then some u else mA g)
  rw [zE3]
  by_cases q:g=f
  ·rw [if_pos q,if_pos q]; exact ry
  ·rw [if_neg q,if_neg q]; exact r g
 ·by_cases q:g=f
  ·rw [q]; exact (zE8 f y fs).1
  ·refine (zE8 f y fs).2 g (wi g fun z=>hg ?_)
   show (if g=f then some u else mA g)=none
   rw [if_neg q]; exact z
theorem Inv.made (I:Inv X pins σ H s):Inv X pins σ (upd (upd H s.heap.objs.size (.own (s.heap.objs.size+1))) (s.heap.objs.size+1) (.ins C s.heap.objs.size []))
  { s with heap:=(s.heap.push W.emptyDict).push (W.instObj C s.heap.objs.size) }:=by
 have e1:(s.heap.push W.emptyDict).get? s.heap.objs.size=some W.emptyDict:=Heap.get?_push_size s.heap rfl
 have e2:=by
  have:=Heap.get?_push_size (s.heap.push W.emptyDict) (o:=W.instObj C s.heap.objs.size) rfl
  rwa [Heap.size_push] at this
 have e3:(s.heap.push W.emptyDict).Ns s.heap.objs.size (fun _=>none):=⟨W.emptyDict,#[],_,e1,rfl,(fun e he=>absurd he (by simp)),fun _=>rfl⟩
 have I1:=I.laid (o:=.own (s.heap.objs.size+1)) (h':=s.heap.push W.emptyDict) (t':=s.toks) (fun b u q=>Heap.get?_push_of_some _ q) (Nat.le_refl _) ⟨_,e1⟩
 refine I1.laid (t':=s.toks) (fun b u q=>Heap.get?_push_of_some _ q) (Nat.le_of_eq (Heap.size_push _ _)) ?_
 have ne:s.heap.objs.size≠s.heap.objs.size+1:=Nat.ne_of_lt (Nat.lt_succ_self _)
 refine ⟨by rw [zA5 ne,zA4],Nat.zero_le _,ne,e2,fun _=>none,(Heap.Ns1.of_empty e3).at fun o q=>Heap.get?_push_of_some _ q,fun _=>True.intro,fun y hy=>absurd rfl hy⟩
theorem attr_of {prog:Program}{w:World}{env:Env}{e:Expr}{f:Str}{pos:Pos}{s:Shared}{Q:Value→Shared→Prop} (hb:attributeBase e f env (eval e env)=eval e env)
  (h:wpAny (model prog w) A (eval e env) (fun o s₁=>wpAny (model prog w) A (getAttr o f true) Q E s₁) E s):wpAny (model prog w) A (eval (.Attribute e f pos) env) Q E s :=
 Attribute_any_ h (by rw [arm_eval_Attribute,hb])
end
noncomputable def sFld (K:W.Frag) (ta tv:TE) (f:Str):TS:=fun D σ H=>tv σ H fun y H1=>ta σ H1 fun x H2=>∃ a C dx fs,x=.ref a∧H2 a=some (.ins C dx fs)∧Cls K C∧zBW K C f∧fs.length<1000 ∧
 D.nx σ (upd H2 a (.ins C dx (putF f y fs)))
section
variable {X:Cx}{o e value:Expr}{f:Str}{pos pos' tpos:Pos}{ta tv:TE}
theorem ps_fld (ha:PE X o ta) (hv:PE X value tv) (hs:swapsWith value (some (.Attribute o f pos')) pos.line X.env=pure false):PS X (.Assign [.Attribute o f pos'] value pos) (sFld X.K ta tv f):=by
 intro pins s σ H D I h
 refine plainObj_wpAny_Assign_Attribute (thn (hv pins s σ H _ I h) fun u s1 ⟨y,H1,I1,ry,q⟩=>thn (ha pins s1 σ H1 _ I1 q) fun ov s2 ⟨x,H2,I2,rx,a,C,dx,fs,ex,ea,c,n,l,q2⟩=>?_) hs
 subst ex
 obtain rfl:ov=Value.ref a:=rx
 exact zJy I2 ea c n l ry fun s3 I3=>⟨σ,_,I3,q2⟩
end
structure Room (k:Nat) (A:Around):Prop where
 hd:A.handled=none
 dp:A.depth+3*k+5<recursionLimit
 un:A.units+16*k+200<cLine
 gd:A.guards=some []
theorem Room.mono {j k:Nat}{A:Around} (r:Room k A) (h:j≤k):Room j A:=⟨r.hd,by have:=r.dp; lia,by have:=r.un; lia,r.gd⟩
theorem Room.deeper {k:Nat}{A:Around} (r:Room (k+1) A) (env:Env):Room k (A.deeper env) :=
 ⟨r.hd,by have:=r.dp; show A.depth+1+3*k+5<_; lia,by have:=r.un; show A.units+3+16*k+200<_; lia,r.gd⟩
theorem zJJ {A:Around}{C:Addr}{us:List Value}{kw:List (Str × Value)}:(A.under (.builtin "type.__call__" ⟨.ref C::us,kw⟩)).depth=A.depth+1:=by
 first | rfl | simp [Around.under,Code.weight,Code.isCreation,Code.isGuard,Code.isCaller,Code.frames,Code.isFrame,guardIds]
theorem zJI {A:Around}{C:Addr}{us:List Value}{kw:List (Str × Value)}:(A.under (.builtin "type.__call__" ⟨.ref C::us,kw⟩)).units=A.units+1:=by
 first | rfl | simp [Around.under,Code.cUnits,Code.frames,Code.isFrame]
theorem Room.make {k:Nat}{A:Around} (r:Room (k+1) A) (C:Addr) (us:List Value) (kw:List (Str × Value)):Room k (A.under (.builtin "type.__call__" ⟨.ref C::us,kw⟩)) :=
 ⟨r.hd,by have:=r.dp; rw [zJJ]; lia,by have:=r.un; rw [zJI]; lia,by have h:=r.gd; first | exact h | simp [Around.under,h,pushGuards,Code.guards,Code.isGuard,guardIds]⟩
theorem Room.depth {k:Nat}{A:Around} (r:Room k A):A.depth<recursionLimit:=by have:=r.dp; lia
theorem Room.units {k:Nat}{A:Around} (r:Room k A):A.units+64<cLine:=by have:=r.un; lia
theorem Room.units0 {k:Nat}{A:Around} (r:Room k A):A.units<cLine:=by have:=r.un; lia
noncomputable def tNil:TA:=fun _ H Q=>Q [] H
noncomputable def tCons (ta:TE) (tr:TA):TA:=fun σ H Q=>ta σ H fun x H1=>tr σ H1 fun xs H2=>Q (x::xs) H2
section
variable {X:Cx}{e:Expr}{es:List Expr}{te:TE}{t:TA}{pos:Pos}
theorem zFo:PA X [] tNil:=fun _ _ _ _ H Q I h=>Calls.spliced_nil ⟨[],H,I,.nil,h⟩
theorem zC7 (ha:PE X e te) (hr:PA X es t) (hs:starEach (e::es) X.env=(false,eval e X.env)::starEach es X.env:=by rfl):PA X (e::es) (tCons te t):=by
 intro pos pins s σ H Q I h
 rw [hs]
 show wpAny _ _ (spliced ((false,eval e X.env)::backTo pos (starEach es X.env))) _ _ s
 refine Calls.spliced_cons (thn (ha pins s σ H _ I h) fun u s1 ⟨x,H1,I1,r1,q1⟩=>?_)
 exact thn (hr pos pins s1 σ H1 _ I1 q1) fun us s2 ⟨xs,H2,I2,r2,q2⟩=>⟨x::xs,H2,I2,.cons r1 r2,q2⟩
noncomputable def tTup (t:TA):TE:=fun σ H Q=>t σ H fun xs H1=>xs.length≤sizeLine∧∀ p,H1 p=none→Q (.ref p) (upd H1 p (.tup xs))
noncomputable def tLst (t:TA):TE:=fun σ H Q=>t σ H fun xs H1=>xs.length≤sizeLine∧∀ p,H1 p=none→Q (.ref p) (upd H1 p (.lst xs))
theorem zPh {x1} (h:PA X es t):PE X (.Tuple es x1 pos) (tTup t):=by
 intro pins s σ H Q I hq
 refine wpAny_Tuple_spliced (thn (h pos pins s σ H _ I hq) fun us s1 ⟨xs,H1,I1,r,z,q⟩=>⟨by rw [← r.length]; exact z,?_⟩)
 have hf:=I1.hok.fresh (Nat.le_refl _)
 refine ⟨.ref s1.heap.objs.size,upd H1 s1.heap.objs.size (.tup xs),I1.laid (t':=s1.toks) (fun b u e=>Heap.get?_push_of_some _ e) (Nat.le_refl _) ?_,rfl,q _ hf⟩
 exact ⟨z,us,r,⟨_,Heap.get?_push_size _ rfl,rfl,_,rfl⟩⟩
theorem pe_lst (h:PA X es t):PE X (.List es pos) (tLst t):=by
 intro pins s σ H Q I hq
 refine wpAny_List_spliced (thn (h pos pins s σ H _ I hq) fun us s1 ⟨xs,H1,I1,r,z,q⟩=>⟨by rw [← r.length]; exact z,?_⟩)
 have hf:=I1.hok.fresh (Nat.le_refl _)
 refine ⟨.ref s1.heap.objs.size,upd H1 s1.heap.objs.size (.lst xs),I1.laid (t':=s1.toks) (fun b u e=>Heap.get?_push_of_some _ e) (Nat.le_refl _) ?_,rfl,q _ hf⟩
 exact ⟨z,us,0,r,Heap.get?_push_size _ rfl⟩
end
noncomputable abbrev Sp:=List V→Hp→VK→XK→Prop
noncomputable abbrev CXT:=List Env→Hp→Shared→XK→Value→Shared→Prop
structure Env0 (P:Program) (w:World) (K:W.Frag) (mg:Str→Option Value) (base:Heap) (A:Around) (outer:List Env) (s:Shared) (H:Hp):Prop where
 frames:A.frames=some outer
 mod:Mod K mg base
 bs:∀ b o,base.get? b=some o→s.heap.get? b=some o∧H b=none
 bsz:base.objs.size≤s.heap.objs.size
 funs:s.heap.FunFrames base outer
 frf:∀ b∈frs outer,H b=none
 hok:HOk P w H s.heap
 bare:AllBare s.gens
def CE (outer:List Env) (P:Program) (w:World) (H:Hp) (s:Shared) (Q:VK) (u:Value) (s':Shared):Prop :=
 ∃ v H',s'.os=s.os∧AllBare s'.gens∧Un (frs outer) [] H H' s.heap s'.heap∧HOk P w H' s'.heap∧RelV v u∧Q v H'
def CR (CX:CXT) (outer:List Env) (P:Program) (w:World) (H:Hp) (s:Shared) (Q:VK) (E:XK) (r:Result) (s':Shared):Prop :=
 match r with
 | .ok (.ret u)=>CE outer P w H s Q u s'
 | .ok _=>False
 | .error e=>CX outer H s E e s'
structure FnOk (P:Program) (w:World) (K:W.Frag) (mg:Str→Option Value) (base:Heap) (CX:CXT) (k:Nat) (f:Addr) (fd:FuncData) (ps:List Str) (sp:Sp):Prop where
 len:∀ vs H Q E,sp vs H Q E→vs.length=ps.length
 run:∀ (A:Around) (outer:List Env) (s:Shared) (H:Hp) (args:Args) (us:List Value) (vs:List V) (Q:VK) (E:XK),Room k A→Env0 P w K mg base A outer s H→BindsTo s fd args (ps.zip us)→Vals vs us→sp vs H Q E →
  codeAny (model P w) A (.call (.ref f) args) (CR CX outer P w H s Q E) s
theorem FnOk.imp {P:Program}{w:World}{K:W.Frag}{mg:Str→Option Value}{base:Heap}{CX:CXT}{k:Nat}{f:Addr}{fd:FuncData}{ps:List Str}{sp sp':Sp} (F:FnOk P w K mg base CX k f fd ps sp)
  (h:∀ vs H Q E,sp' vs H Q E→sp vs H Q E):FnOk P w K mg base CX k f fd ps sp' :=
 ⟨fun vs H Q E q=>F.len vs H Q E (h _ _ _ _ q),fun A outer s H args us vs Q E hr he hb hv hs=>F.run A outer s H args us vs Q E hr he hb hv (h _ _ _ _ hs)⟩
theorem Env0.make {P:Program}{w:World}{K:W.Frag}{mg:Str→Option Value}{base:Heap}{A:Around}{outer:List Env}{s:Shared}{H:Hp} (e:Env0 P w K mg base A outer s H) (C:Addr) (us:List Value) (kw:List (Str × Value)) :
  Env0 P w K mg base (A.under (.builtin "type.__call__" ⟨.ref C::us,kw⟩)) outer s H:=⟨by first | exact e.frames | (simpa [Around.under,Code.envs,Code.isFrame,pushEnvs] using e.frames),e.mod,e.bs,e.bsz,e.funs,e.frf,e.hok,e.bare⟩
section
variable {X:Cx}{pins:List (Addr × Obj)}{σ:St}{H:Hp}{s s':Shared}
theorem Inv.env0 (I:Inv X pins σ H s):Env0 X.prog X.w X.K X.mg X.base X.A X.stack s H :=
 ⟨I.ok.frames,I.ok.mod,I.bs,Nat.le_trans I.ok.bsz I.sz,I.stack,I.stkFree,I.hok,I.bare⟩
theorem Inv.after {Q:VK}{u:Value} (I:Inv X pins σ H s) (h:CE X.stack X.prog X.w H s Q u s'):EP X pins σ Q u s':=by
 obtain ⟨v,H',os,bare,un,hok,r,q⟩:=h
 obtain ⟨hh,g,d,t,os'⟩:=s'
 obtain rfl:os'=s.os:=os
 exact ⟨v,H',I.call (h':=hh) (g':=g) (d':=d) (t':=t) un hok bare (fun b z=>absurd z (by simp)),r,q⟩
end
noncomputable def zNb (sp:Sp) (dvs:List V) (E:XK) (t:TA):TE:=fun σ H Q=>t σ H fun vs H1=>sp (vs++dvs) H1 Q E
noncomputable def tMake (C:Addr) (sp:Sp) (dvs:List V) (E:XK) (t:TA):TE:=fun σ H Q=>t σ H fun vs H1=>∀ x dx,H1 x=none→H1 dx=none→dx≠x →
 sp (.ref x::(vs++dvs)) (upd (upd H1 dx (.own x)) x (.ins C dx [])) (fun v H2=>v=.non∧Q (.ref x) H2) E
def zBN (K:W.Frag) (fd:FuncData) (ps:List Str) (ds:List Value):Prop :=
 ∀ (s:Shared) (us:List Value),K.In s.heap→(us++ds).length=ps.length→BindsTo s fd ⟨us,[]⟩ (ps.zip (us++ds))
theorem zBN.all {K:W.Frag}{fd:FuncData}{ps:List Str} (h:∀ us:List Value,us.length=ps.length→bindArgs fd ⟨us,[]⟩=pure (ps.zip us)):zBN K fd ps []:=fun s us _ hl=>by
 rw [List.append_nil] at hl ⊢
 exact .of_eq (h us hl)
def zB1 (CX:CXT) (X:Cx) (E:XK):Prop:=∀ (pins:List (Addr × Obj)) (σ:St) (H:Hp) (s:Shared) (e:Value) (s':Shared),Inv X pins σ H s→CX X.stack H s E e s'→X.xe e s'
section
variable {X:Cx}{CX:CXT}{k:Nat}{f C:Addr}{fd:FuncData}{ps:List Str}{sp:Sp}{dvs:List V}{ds:List Value}{E:XK}{x m:Str}{p pos apos:Pos}{e o:Expr}{es:List Expr}{ta:TE}{t:TA}
theorem zPc {pins:List (Addr × Obj)}{σ:St}{H:Hp}{s:Shared}{Q:VK}{us:List Value}{vs:List V} (F:FnOk X.prog X.w X.K X.mg X.base CX k f fd ps sp) (hr:Room k X.A) (hb:zBN X.K fd ps ds) (hd:Vals dvs ds) (hx:zB1 CX X E)
  (I:Inv X pins σ H s) (r:Vals vs us) (h:sp (vs++dvs) H Q E):wpAny (model X.prog X.w) X.A (call (.ref f) us) (EP X pins σ Q) X.xe s:=by
 have r2:=r.append hd
 have hl:(us++ds).length=ps.length:=by rw [← r2.length]; exact F.len _ _ _ _ h
 refine wpAny_call (codeAny_mono (F.run X.A X.stack s H ⟨us,[]⟩ (us++ds) (vs++dvs) Q E hr I.env0 (hb s us I.kIn hl) r2 h) fun r s' hq=>?_)
 cases r with
 | error e=>exact hx pins σ H s e s' I hq
 | ok fl =>
  cases fl with
  | ret u=>exact I.after hq
  | next=>exact False.elim hq
  | brk=>exact False.elim hq
  | cont=>exact False.elim hq
theorem zQE (F:FnOk X.prog X.w X.K X.mg X.base CX k f fd ps sp) (hr:Room k X.A) (hg:Gl X x) (hm:X.mg x=some (.ref f)) (hk:W.keepIn X.K (.ref f)=true) (hb:zBN X.K fd ps ds) (hd:Vals dvs ds) (hx:zB1 CX X E)
  (ha:PA X (e::es) t) (hdb:(x == ("__debug__":Str))=false:=by decide) (he:starEach (e::es) X.env=(false,eval e X.env)::starEach es X.env:=by rfl) (hpl:(backTo pos (starEach es X.env)).any (·.1)=false:=by rfl) :
  PE X (.Call (.Name x p) (e::es) [] pos) (zNb sp dvs E t):=by
 intro pins s σ H Q I h
 refine wpAny_Call_Name_kw (zBQ I hg hm ?_ hdb)
 refine W.callWith_K I.ok.mod.kin hk (thn (ha pos pins s σ H _ I h) fun us s1 ⟨vs,H1,I1,r,q⟩=>⟨I1.kIn,?_⟩) he hpl
 exact zPc F hr hb hd hx I1 r q
structure Mk (K:W.Frag) (C f:Addr):Prop where
 makes:W.makesIn K C=true
 init:W.findIn K (.ref C) "__init__"=some (some (.ref f))
 fn:W.isFn K (.ref f)=true
 kp:W.keepIn K (.ref C)=true
theorem zNv {pins:List (Addr × Obj)}{σ:St}{H:Hp}{s:Shared}{Q:VK}{us:List Value}{vs:List V} (M:Mk X.K C f) (F:FnOk X.prog X.w X.K X.mg X.base CX k f fd ps sp) (hr:Room (k+1) X.A) (hb:zBN X.K fd ps ds) (hd:Vals dvs ds)
  (hx:zB1 CX X E) (I:Inv X pins σ H s) (r:Vals vs us)
  (h:∀ x dx,H x=none→H dx=none→dx≠x→sp (.ref x::(vs++dvs)) (upd (upd H dx (.own x)) x (.ins C dx [])) (fun v H2=>v=.non∧Q (.ref x) H2) E) :
  wpAny (model X.prog X.w) X.A (call (.ref C) us) (EP X pins σ Q) X.xe s:=by
 have hq:=h (s.heap.objs.size+1) s.heap.objs.size (I.hok.fresh (Nat.le_succ _)) (I.hok.fresh (Nat.le_refl _)) (Nat.ne_of_lt (Nat.lt_succ_self _))
 have I2:=Inv.made (C:=C) I
 have r2:Vals (V.ref (s.heap.objs.size+1)::(vs++dvs)) (Value.ref (s.heap.objs.size+1)::(us++ds)):=.cons rfl (r.append hd)
 have hl:(Value.ref (s.heap.objs.size+1)::us++ds).length=ps.length:=by
  have e:=r2.length
  rw [F.len _ _ _ _ hq] at e
  exact e.symm
 refine wpAny_call (zO6 (f:=f) I.kIn M.makes M.init (beq_iff_eq.mp M.fn) (codeAny_mono (F.run _ X.stack _ _ ⟨Value.ref (s.heap.objs.size+1)::us,[]⟩ (Value.ref (s.heap.objs.size+1)::(us++ds)) _ _ E (hr.make C us [])
  (I2.env0.make C us []) (hb _ (Value.ref (s.heap.objs.size+1)::us) I2.kIn hl) r2 hq) fun r s' hq'=>?_))
 cases r with
 | error e=>exact hx pins σ _ _ e s' I2 hq'
 | ok fl =>
  cases fl with
  | ret u =>
   obtain ⟨v,H',I3,rv,ev,q3⟩:=I2.after hq'
   subst ev
   exact ⟨rv,⟨V.ref (s.heap.objs.size+1),H',I3,rfl,q3⟩⟩
  | next=>exact False.elim hq'
  | brk=>exact False.elim hq'
  | cont=>exact False.elim hq'
theorem zNI (M:Mk X.K C f) (F:FnOk X.prog X.w X.K X.mg X.base CX k f fd ps sp) (hr:Room (k+1) X.A) (hg:Gl X x) (hm:X.mg x=some (.ref C)) (hb:zBN X.K fd ps ds) (hd:Vals dvs ds) (hx:zB1 CX X E)
  (hdb:(x == ("__debug__":Str))=false:=by decide):PE X (.Call (.Name x p) [] [] pos) (tMake C sp dvs E tNil):=by
 intro pins s σ H Q I h
 refine wpAny_Call_Name_kw (zBQ I hg hm ?_ hdb)
 exact W.callWith_K0 I.kIn M.kp (zNv (us:=[]) M F hr hb hd hx I .nil h)
end
structure zBw (N P:List Str) (sc:Scope):Prop where
 kind:sc.kind=.function
 co:sc.isCoroutine=false
 gen:sc.isGenerator=false
 nd:N.Nodup
 pre:N.take P.length=P
 par:∀ x∈P,sc.names.lookup x=some .local∨sc.names.lookup x=some .cell
 nofree:∀ y∈sc.names,y.2≠.free
theorem zHr {kindOf:Str→Option NameKind}{x:Str}:∀ {binds:List (Str × Value)}{m:Str→Option Value},(∀ v,(x,v)∉binds)→bindL kindOf binds m x=m x
 | [],_,_=>rfl
 | (n,v)::r,m,h=>by
  unfold bindL
  rw [zHr fun w hw=>h w (List.mem_cons_of_mem _ hw)]
  split
  ·have:x≠n:=by rintro rfl; exact h v List.mem_cons_self
   simp [this]
  ·rfl
theorem zHt {kindOf:Str→Option NameKind}{x:Str}:∀ {binds:List (Str × Value)}{m:Str→Option Value},(∀ v,(x,v)∉binds)→bindC kindOf binds m x=m x
 | [],_,_=>rfl
 | (n,v)::r,m,h=>by
  unfold bindC
  rw [zHt fun w hw=>h w (List.mem_cons_of_mem _ hw)]
  split
  ·rfl
  ·have:x≠n:=by rintro rfl; exact h v List.mem_cons_self
   simp [this]
theorem zHs {kindOf:Str→Option NameKind}{x:Str}{v:Value}:∀ {P:List Str}{vs:List Value}{i:Nat}{m:Str→Option Value},P.Nodup→P[i]?=some x→vs[i]?=some v→kindOf x=some .local →
  bindL kindOf (P.zip vs) m x=some v
 | [],_,_,_,_,h,_,_=>by simp at h
 | _::_,[],_,_,_,_,h,_=>by simp at h
 | p::P,w::vs,0,m,nd,h1,h2,hk=>by
  simp at h1 h2; subst h1; subst h2
  show bindL kindOf ((p,w)::P.zip vs) m p=_
  unfold bindL
  rw [zHr fun v hv=>(List.nodup_cons.mp nd).1 (List.of_mem_zip hv).1,if_pos hk]
  simp
 | p::P,w::vs,i+1,m,nd,h1,h2,hk=>by
  show bindL kindOf ((p,w)::P.zip vs) m x=_
  exact zHs (List.nodup_cons.mp nd).2 (by simpa using h1) (by simpa using h2) hk
theorem zHu {kindOf:Str→Option NameKind}{x:Str}{v:Value}:∀ {P:List Str}{vs:List Value}{i:Nat}{m:Str→Option Value},P.Nodup→P[i]?=some x→vs[i]?=some v→kindOf x≠some .local →
  bindC kindOf (P.zip vs) m x=some v
 | [],_,_,_,_,h,_,_=>by simp at h
 | _::_,[],_,_,_,_,h,_=>by simp at h
 | p::P,w::vs,0,m,nd,h1,h2,hk=>by
  simp at h1 h2; subst h1; subst h2
  show bindC kindOf ((p,w)::P.zip vs) m p=_
  unfold bindC
  rw [zHt fun v hv=>(List.nodup_cons.mp nd).1 (List.of_mem_zip hv).1,if_neg hk]
  simp
 | p::P,w::vs,i+1,m,nd,h1,h2,hk=>by
  show bindC kindOf ((p,w)::P.zip vs) m x=_
  exact zHu (List.nodup_cons.mp nd).2 (by simpa using h1) (by simpa using h2) hk
noncomputable def start (N:List Str) (vs:List V):St:=vs.map some++List.replicate (N.length - vs.length) none
noncomputable def cxOf (CX:CXT) (P:Program) (w:World) (K:W.Frag) (mg:Str→Option Value) (base:Heap) (N:List Str) (qual:Str) (scope:Scope) (f:Addr) (cd:Value) (A:Around) (outer:List Env) (s:Shared) (H:Hp) (E:XK):Cx where
 prog:=P
 w:=w
 K:=K
 mg:=mg
 base:=base
 A:=A.deeper (envOfC qual scope s.heap.objs.size f cd)
 N:=N
 s₀:=s
 H₀:=H
 env:=envOfC qual scope s.heap.objs.size f cd
 outer:=outer
 stack:=envOfC qual scope s.heap.objs.size f cd::outer
 ex:=[]
 calm:=true
 fn:=fun _=>true
 pn:=[]
 xe:=fun e s'=>wpAny (model P w) (A.deeper (envOfC qual scope s.heap.objs.size f cd)) (leaving (envOfC qual scope s.heap.objs.size f cd) e) (fun _ s''=>CX outer H s E e s'') (fun e' s''=>CX outer H s E e' s'') s'
theorem zJk {sc:Scope}{n:Nat}{x:Str} (h:sc.names.lookup x=some .cell):∃ c,(cellsFrom n sc.names []).lookup x=some c:=by
 have q:=W.cellsFrom_some sc.names n [] (.inl h)
 exact Option.isSome_iff_exists.mp q
theorem zEb {CX:CXT}{P:Program}{w:World}{K:W.Frag}{mg:Str→Option Value}{base:Heap}{N ps:List Str}{qual:Str}{scope:Scope}{f:Addr}{cd:Value}{A:Around}{outer:List Env}{s s1:Shared}{H:Hp}{E:XK}{us:List Value}{vs:List V}
  (S:zBw N ps scope) (hd:A.handled=none) (e0:Env0 P w K mg base A outer s H) (hl:vs.length=ps.length) (r:Vals vs us)
  (x:InCallC s s.heap.objs.size (bindL (envOfC qual scope s.heap.objs.size f cd).kindOf (ps.zip us) fun _=>none) (cellsFrom (s.heap.objs.size+1) scope.names []) (bindC (envOfC qual scope s.heap.objs.size f cd).kindOf (ps.zip us) fun _=>none) s1) :
  Inv (cxOf CX P w K mg base N qual scope f cd A outer s H E) [] (start N vs) H s1:=by
 have hpl:=by have:=congrArg List.length S.pre; rw [List.length_take] at this; omega
 obtain ⟨h1,tk,rfl,hk⟩:=x.done
 have noA:∀ b:Addr,b∉(cxOf CX P w K mg base N qual scope f cd A outer s H E).ex:=fun b z=>absurd (show b∈([]) from z) (by simp)
 refine ⟨⟨e0.mod,S.kind,rfl,rfl,Nat.le_refl _,fun y z c h1 h2=>?_,fun y hy=>?_,fun y c _ h=>?_,fun _=>hd,Around.frames_deeper e0.frames,.inr ⟨rfl,rfl⟩,fun b z=>absurd z (noA b),e0.bs,e0.bsz,fun b _ _=>noA b,fun b z=>absurd z (noA b),e0.funs,e0.frf⟩,
  rfl,e0.bare,Un.kept hk,⟨_,x.toInCall.ns,fun i y v h1 h2 h3=>?_⟩,fun y c h=>⟨_,x.cell y c h⟩,e0.hok.fresh (Nat.le_refl _),fun y c h=>?_,fun p hp=>absurd (show p∈([]) from hp) (by simp),e0.hok.kept hk,?_⟩
 ·exact name_of_addr x.apart (PySem.mem_of_lookup h1) (PySem.mem_of_lookup h2)
 ·have hy:=hy
  rcases hy with hy | hy
  ·exact zJk hy
  ·exact absurd rfl (S.nofree _ (PySem.mem_of_lookup hy))
 ·exact Nat.le_of_lt (x.above y c (PySem.mem_of_lookup h))
 ·have hi:i<vs.length:=by
   unfold start at h2
   by_cases hi:i<vs.length
   ·exact hi
   ·rw [List.getElem?_append_right (by simpa using hi)] at h2
    rw [List.getElem?_replicate] at h2
    split at h2 <;> cases h2
  have ha:vs[i]?=some v:=by
   unfold start at h2
   rw [List.getElem?_append_left (by simpa using hi),List.getElem?_map] at h2
   cases e:vs[i]? with
   | none=>rw [e] at h2; cases h2
   | some a=>rw [e] at h2; cases h2; rfl
  obtain ⟨u,hu,rv⟩:=r.get ha
  have hp:ps[i]?=some y:=by
   rw [← S.pre,List.getElem?_take_of_lt (by lia)]; exact h1
  have ndP:ps.Nodup:=by rw [← S.pre]; exact S.nd.sublist (List.take_sublist _ _)
  refine ⟨u,rv,?_⟩
  rcases S.par y (List.mem_of_getElem? hp) with k | k
  ·exact .inl ⟨k,zHs ndP hp hu k⟩
  ·obtain ⟨c,e⟩:=zJk k
   refine .inr ⟨.inl k,c,e,?_⟩
   have q:=x.cell y c e
   rw [zHu ndP hp hu (by show scope.names.lookup y≠_; rw [k]; decide)] at q
   exact q
 ·exact e0.hok.fresh (Nat.le_of_lt (x.above y c (PySem.mem_of_lookup h)))
 ·unfold start
  show _=N.length
  rw [List.length_append,List.length_map,List.length_replicate]
  omega
theorem fn_of {CX:CXT}{P:Program}{w:World}{K:W.Frag}{mg:Str→Option Value}{base:Heap}{k:Nat}{f:Addr}{name qual:Str}{params:Arguments}{body:List Stmt}{scope:Scope}{dV kV doc pm cdv ct oc:Value}{an od:Option Addr}
  {osl:Array (Option Value)}{N ps:List Str}{sp:Sp} (lk:K.lookup f=some ⟨oc,od,.func (W.fnOf name qual params body scope dV kV doc pm an cdv ct),osl⟩) (hcd:W.codeIn K cdv qual=true) (S:zBw N ps scope)
  (len:∀ vs H Q E,sp vs H Q E→vs.length=ps.length)
  (hbody:∀ (A:Around) (outer:List Env) (s:Shared) (H:Hp) (vs:List V) (Q:VK) (E:XK),Room k (A.deeper (envOfC qual scope s.heap.objs.size f cdv))→sp vs H Q E →
   ∃ t,PSs (cxOf CX P w K mg base N qual scope f cdv A outer s H E) body t∧t { nx:=fun _ H'=>Q .non H',rt:=Q } (start N vs) H) :
  FnOk P w K mg base CX (k+1) f (W.fnOf name qual params body scope dV kV doc pm an cdv ct) ps sp:=by
 refine ⟨len,fun A outer s H args us vs Q E hr e0 hb r hsp=>?_⟩
 have hl:=len _ _ _ _ hsp
 have KX:=e0.mod.kin.keeps fun b o e=>(e0.bs b o e).1
 have lim:=e0.mod.nolimit.keeps fun b o e=>(e0.bs b o e).1
 have hkind:∀ y∈ps.zip us,scope.names.lookup y.1=some .local∨(scope.names.lookup y.1=some .cell∧((cellsFrom (s.heap.objs.size+1) scope.names []).lookup y.1).isSome=true):=fun ⟨n,v⟩ hy=>by
  rcases S.par n (List.of_mem_zip hy).1 with q | q
  ·exact .inl q
  ·exact .inr ⟨q,W.cellsFrom_some _ _ _ (.inl q)⟩
 refine codeAny_call_function hr.depth (KX _ _ lk) rfl S.co S.gen rfl (W.codeRec_of KX hcd) (hb _ _ _ _ ?_)
 refine wpAny_newFunctionEnv_cells S.kind hkind fun env he s1 x=>?_
 subst he
 refine ⟨lim.keeps x.toInCall.keep,codeAny_func ?_⟩
 obtain ⟨t,ht,hq⟩:=hbody A outer s H vs Q E (hr.deeper _) hsp
 have I:Inv (cxOf CX P w K mg base N qual scope f cdv A outer s H E) [] (start N vs) H s1:=zEb S hr.hd e0 hl r x
 refine wpAny_mono (ht [] s1 (start N vs) H _ I hq) (fun fl s' hs=>?_) fun e s' hs=>hs
 have fin:∀ {σ':St}{H':Hp}{v:V}{u:Value},Inv (cxOf CX P w K mg base N qual scope f cdv A outer s H E) [] σ' H' s'→RelV v u→Q v H'→CE outer P w H s Q u s' :=
  fun {σ' H' v u} J rv q=>⟨v,H',J.os,J.bare,J.base,J.hok,rv,q⟩
 cases fl with
 | ret u =>
  obtain ⟨v,σ',H',J,rv,q⟩:=hs
  exact fin J rv q
 | next =>
  obtain ⟨σ',H',J,q⟩:=hs
  exact fin (v:=V.non) J rfl q
 | brk =>
  obtain ⟨_,_,_,q⟩:=hs
  exact False.elim q
 | cont =>
  obtain ⟨_,_,_,q⟩:=hs
  exact False.elim q
section
variable {X:Cx}{x:Str}{p pos:Pos}{e:Expr}{es:List Expr}{t:TA}{id T:String}{r:List V→Hp→VK→Prop}
noncomputable def tCB (r:List V→Hp→VK→Prop) (t:TA):TE:=fun σ H Q=>t σ H fun vs H1=>r vs H1 Q
theorem zIW (hc:zAw X (.builtin id) r) (hg:Gl X x) (hm:X.mg x=none) (hv:bootBuiltins x=some (.builtin id)) (ha:PA X (e::es) t) (hn:x ≠ "__name__":=by decide) (hdb:(x == ("__debug__":Str))=false:=by decide)
  (he:starEach (e::es) X.env=(false,eval e X.env)::starEach es X.env:=by rfl) (hpl:(backTo pos (starEach es X.env)).any (·.1)=false:=by rfl):PE X (.Call (.Name x p) (e::es) [] pos) (tCB r t):=by
 intro pins s σ H Q I h
 refine wpAny_Call_Name_kw (zE6 I hg hm hv ?_ hn hdb)
 exact PyProof.Rows.callWith_builtin1 (thn (ha pos pins s σ H _ I h) fun us s1 ⟨vs,H1,I1,r1,q1⟩=>hc pins s1 σ H1 vs us Q I1 r1 q1) he hpl
theorem zCT (hc:zAw X (.type T) r) (hg:Gl X x) (hm:X.mg x=none) (hv:bootBuiltins x=some (.type T)) (ha:PA X (e::es) t) (hn:x ≠ "__name__":=by decide) (hdb:(x == ("__debug__":Str))=false:=by decide)
  (he:starEach (e::es) X.env=(false,eval e X.env)::starEach es X.env:=by rfl) (hpl:(backTo pos (starEach es X.env)).any (·.1)=false:=by rfl):PE X (.Call (.Name x p) (e::es) [] pos) (tCB r t):=by
 intro pins s σ H Q I h
 refine wpAny_Call_Name_kw (zE6 I hg hm hv ?_ hn hdb)
 exact PyProof.Rows.callWith_type1 (thn (ha pos pins s σ H _ I h) fun us s1 ⟨vs,H1,I1,r1,q1⟩=>hc pins s1 σ H1 vs us Q I1 r1 q1) he hpl
end
end L2
namespace HT
open PySem PyProof.Rows
section
variable {prog:Program}{w:World}{A:Around}{E:Value→Shared→Prop}{s:Shared}
theorem cat_tup {t b:Addr}{vs ws:List Value}{Q:Value→Shared→Prop} (ht:IsTup s.heap t vs.toArray) (hb:IsTup s.heap b ws.toArray) (hv:vs≠[])
  (h1:ws=[]→Q (.ref t) s) (h2:ws≠[]→Q (.ref s.heap.objs.size) { s with heap:=s.heap.push { cls:=.type "tuple",data:=.seq (vs++ws).toArray } })
  (hsz:vs.length+ws.length≤sizeLine):wpAny (model prog w) A (binaryOp .Add (.ref t) (.ref b)) Q E s:=by
 obtain ⟨⟨cls,dd,data,sl⟩,ho,hc,n,hd⟩:=id ht
 obtain ⟨⟨cls2,dd2,data2,sl2⟩,ho2,hc2,n2,hd2⟩:=id hb
 simp only at hc hd hc2 hd2
 subst hc hd hc2 hd2
 have e:vs.toArray++ws.toArray=(vs++ws).toArray:=by simp
 by_cases hw:ws=[]
 ·exact concat_meets ⟨_,ho,rfl⟩ ⟨_,ho2,rfl⟩ noFill_tuple_add seq_tuple_add PySem.F.slot_tuple_add PySem.F.entry_tuple_add (PySem.F.args_tuple_add_2 _ _)
   (tuple_addW1 t b vs.toArray ws.toArray n n2 dd dd2 sl sl2 (by simpa using hv) (by simp [hw])) ⟨ho,ho2,h1 hw⟩
 ·refine concat_meets ⟨_,ho,rfl⟩ ⟨_,ho2,rfl⟩ noFill_tuple_add seq_tuple_add PySem.F.slot_tuple_add PySem.F.entry_tuple_add (PySem.F.args_tuple_add_2 _ _)
   (tuple_addW2 t b vs.toArray ws.toArray n n2 dd dd2 sl sl2 (by simpa using hv) (by simpa using hw) (by exact hsz)) ⟨ho,ho2,?_⟩
  rw [e]
  exact h2 hw
noncomputable def sIx (n d:Nat):Option Int→Nat
 | none=>d
 | some v=>if v<0 then (v+(n:Int)).toNat else min v.toNat n
theorem sIx_none (n d:Nat):sIx n d none=d:=rfl
theorem sIx_nat (n d k:Nat):sIx n d (some (k:Int))=min k n:=rfl
theorem zMn (v:Int) (n d:Nat):(if v<0 then max (v+(n:Int)) 0 else min v (n:Int))=((sIx n d (some v):Nat):Int):=by
 show (if v<0 then max (v+n) 0 else min v n)=(((if v<0 then (v+n).toNat else min v.toNat n):Nat):Int)
 by_cases hv:v<0
 ·simp only [if_pos hv]; lia
 ·simp only [if_neg hv]; lia
theorem zKg (lo hi:Option Int) (n:Nat):Builtin.Slice.sliceAdjust lo hi 1 (n:Int)=(((sIx n 0 lo:Nat):Int),((sIx n n hi:Nat):Int)):=by
 refine Prod.ext ?_ ?_
 ·cases lo with
  | none=>rfl
  | some v=>exact zMn v n 0
 ·cases hi with
  | none=>rfl
  | some v=>exact zMn v n n
theorem zJD (i j:Nat):Builtin.Slice.slicePlaces (i:Int) (j:Int) 1=j - i:=by
 unfold Builtin.Slice.slicePlaces
 split <;> lia
theorem zFg {v:Value}{o:Option Int}{Q:Option Int→Shared→Prop} (p:IsPart v o) (h:Q o s):wpAny (model prog w) A (Builtin.Slice.slicePartIndex v) Q E s:=by
 cases p with
 | none=>exact slicePart_none h
 | int i t=>exact slicePart_int h
theorem sliceApplied_gen {sl:Addr}{vl vu:Value}{lo hi:Option Int}{n:Nat}{Q:Int × Int × Nat→Shared→Prop} (hs:s.heap.IsSliceOf sl vl vu .none) (pl:IsPart vl lo) (pu:IsPart vu hi)
  (h:Q (((sIx n 0 lo:Nat):Int),1,sIx n n hi - sIx n 0 lo) s):wpAny (model prog w) A (Builtin.Slice.sliceApplied (.ref sl) (pure (n:Int))) Q E s:=by
 obtain ⟨os,hos,hcs,hds⟩:=id hs
 refine wpAny_bind (wpAny_bind (wpAny_field hos hds (x:=vl) rfl (wpAny_bind (wpAny_field hos hds (x:=vu) rfl (wpAny_bind (wpAny_field hos hds (x:=.none) rfl (wpAny_pure ?_)))))))
 refine wpAny_bind (slicePart_none ?_)
 refine wpAny_bind (zFg pl (wpAny_bind (zFg pu (wpAny_bind (wpAny_pure ?_)))))
 show wpAny _ _ (match Builtin.Slice.sliceAdjust lo hi 1 n with | (lo,hi)=>pure (lo,(1:Int),Builtin.Slice.slicePlaces lo hi 1)) _ _ s
 rw [zKg lo hi n]
 show wpAny _ _ (pure (((sIx n 0 lo):Int),1,Builtin.Slice.slicePlaces ((sIx n 0 lo):Int) ((sIx n n hi):Int) 1)) _ _ s
 rw [zJD]
 exact wpAny_pure h
theorem zNF (xs:Array Value) (i k:Nat):((List.range k).filterMap fun (m:Nat)=>xs[((i:Int)+(m:Int)*1).toNat]?).toArray=((xs.toList.drop i).take k).toArray:=by
 have e:(fun (m:Nat)=>xs[(i+(m:Int)*1).toNat]?)=fun m=>xs[i+m]?:=by
  funext m
  have:(i+(m:Int)*1).toNat=i+m:=by lia
  rw [this]
 rw [e]
 have:=pick_run xs i k
 rw [List.filterMap_map] at this
 have e2:((fun x=>xs[x]?)∘fun x=>i+x)=fun m=>xs[i+m]?:=rfl
 rw [e2] at this
 rw [this]
theorem getItem_tuple_cut {t sl:Addr}{items:Array Value}{vl vu:Value}{lo hi:Option Int}{Q:Value→Shared→Prop} (ht:IsTup s.heap t items) (hs:s.heap.IsSliceOf sl vl vu .none) (pl:IsPart vl lo) (pu:IsPart vu hi)
  (hw:¬ (sIx items.size 0 lo=0∧sIx items.size items.size hi=items.size))
  (h:Q (.ref s.heap.objs.size) { s with heap:=s.heap.push { cls:=.type "tuple",data:=.seq ((items.toList.drop (sIx items.size 0 lo)).take (sIx items.size items.size hi - sIx items.size 0 lo)).toArray } })
  (hsz:items.size≤sizeLine):wpAny (model prog w) A (getItem (.ref t) (.ref sl)) Q E s:=by
 have htake:=by
  show ((items.toList.drop (sIx items.size 0 lo)).take (sIx items.size items.size hi - sIx items.size 0 lo)).toArray.size≤sizeLine
  rw [List.size_toArray,List.length_take,List.length_drop,Array.length_toList]
  omega
 obtain ⟨os,hos,hcs,hds⟩:=id hs
 have hTs:s.TypeIs (.ref sl) "slice":=⟨os,hos,hcs⟩
 unfold getItem
 try with_reducible refine wpAny_holding ?_
 refine wpAny_bind (wpAny_sequenceKey ht.typeIs (by decide) ?_)
 refine wpAny_bind (wpAny_callSpecial?_slot ht.typeIs PyProof.Rows.slot_tuple_getitem
  (wpAny_call_entry PyProof.Rows.slot_tuple_getitem ht.typeIs entry_tuple_getitem ?_ (args_tuple_getitem _ _)))
 show wpAny _ _ (Builtin.Tuple.tupleItemsOf (.ref t) >>= _) _ _ s
 refine wpAny_bind (tupleItemsOf_ ht ?_)
 refine wpAny_bind (wpAny_typeOf hTs ?_)
 refine wpAny_bind (sliceApplied_gen hs pl pu ?_)
 have hno:¬ ((((sIx items.size 0 lo):Int) == 0&&(1:Int) == 1&&(sIx items.size items.size hi - sIx items.size 0 lo) == items.size)=true):=by
  intro q
  rw [Bool.and_eq_true,Bool.and_eq_true] at q
  have q1:=eq_of_beq q.1.1
  have q2:=eq_of_beq q.2
  exact hw ⟨by omega,by omega⟩
 show wpAny _ _ (if (((sIx items.size 0 lo):Int) == 0&&1 == 1&&(sIx items.size items.size hi - sIx items.size 0 lo) == items.size)=true then _ else _) _ _ s
 rw [if_neg hno,zNF]
 first
  | exact wpAny_bind (wpAny_newObj_type (wpAny_pure ⟨_,rfl,wpAny_pure h⟩) htake)
  | exact wpAny_bind (wpAny_newObj_type (wpAny_bind (wpAny_pure (wpAny_pure ⟨_,rfl,wpAny_pure h⟩))) htake)
  | exact wpAny_bind (wpAny_bind (wpAny_newObj_type (wpAny_pure (wpAny_pure ⟨_,rfl,wpAny_pure h⟩)) htake))
  | exact wpAny_bind (wpAny_bind (wpAny_newObj_type (wpAny_pure ⟨_,rfl,wpAny_pure h⟩) htake))
end
end HT
namespace L2
open PySem PySem.Spec PyProof.Rows
noncomputable abbrev TO:=St→Hp→(Option Int→Hp→Prop)→Prop
def PO (X:Cx) (e:Option Expr) (t:TO):Prop :=
 ∀ (pins:List (Addr × Obj)) (s:Shared) (σ:St) (H:Hp) (Q:Option Int→Hp→Prop),Inv X pins σ H s→t σ H Q →
  wpAny (model X.prog X.w) X.A (evalPart e X.env) (fun u s'=>∃ o H',Inv X pins σ H' s'∧IsPart u o∧Q o H') X.xe s
noncomputable def zPI:TO:=fun _ H Q=>Q none H
noncomputable def tPart (t:TE):TO:=fun σ H Q=>t σ H fun x H1=>∃ i,x=.int i∧Q (some i) H1
theorem zJM {ns:List Int}:∀ {us:List Value},Vals (ns.map V.int) us→IntsAre us ns:=by
 induction ns with
 | nil=>intro us r; cases r; exact .nil
 | cons n ns ih =>
  intro us r
  cases r with
  | cons r1 r2 =>
   obtain ⟨t,e⟩:=r1
   subst e
   exact .cons n t (ih r2)
section
variable {X:Cx}{e:Expr}{te:TE}{lo hi:Option Expr}{tl th:TO}{pos p2:Pos}
theorem zQw:PO X none zPI:=by
 intro pins s σ H Q I h
 exact wpAny_pure ⟨none,H,I,.none,h⟩
theorem zQv (h:PE X e te):PO X (some e) (tPart te):=by
 intro pins s σ H Q I hw
 refine thn (h pins s σ H _ I hw) fun u s1 ⟨x,H1,I1,r1,q1⟩=>?_
 obtain ⟨i,rfl,q⟩:=q1
 obtain ⟨t,rfl⟩:=r1
 exact ⟨some i,H1,I1,.int i t,q⟩
def SlR (X:Cx) (r:V→Option Int→Option Int→Hp→VK→Prop):Prop :=
 ∀ (pins:List (Addr × Obj)) (s:Shared) (σ:St) (H:Hp) (x:V) (v vl vu:Value) (lo hi:Option Int) (sl:Addr) (Q:VK),Inv X pins σ H s→RelV x v→s.heap.IsSliceOf sl vl vu .none→IsPart vl lo→IsPart vu hi→r x lo hi H Q →
  ∃ T id,typeLookup (.type T) "__getitem__"=pure (some (.builtin id))∧s.TypeIs v T∧wpAny (model X.prog X.w) X.A (getItem v (.ref sl)) (EP X pins σ Q) X.xe s
noncomputable def tSl (r:V→Option Int→Option Int→Hp→VK→Prop) (te:TE) (tl th:TO):TE:=fun σ H Q=>te σ H fun x H1=>tl σ H1 fun l H2=>th σ H2 fun u H3=>r x l u H3 Q
theorem zNH {r:V→Option Int→Option Int→Hp→VK→Prop} (hr:SlR X r) (he:PE X e te) (hl:PO X lo tl) (hu:PO X hi th):PE X (.Subscript e (.Slice lo hi none p2) pos) (tSl r te tl th):=by
 intro pins s σ H Q I h
 refine Subscript_ (thn (he pins s σ H _ I h) fun v s1 ⟨x,H1,I1,r1,q1⟩=>?_)
 refine wpAny_Slice (thn (hl pins s1 σ H1 _ I1 q1) fun vl s2 ⟨l,H2,I2,pl,q2⟩=>thn (hu pins s2 σ H2 _ I2 q2) fun vu s3 ⟨u,H3,I3,pu,q3⟩=>?_)
 refine wpAny_pure ?_
 have I4:Inv X pins σ H3 { s3 with heap:=s3.heap.push { cls:=.type "slice",data:=.fields #[vl,vu,.none] } }:=I3.kept (t':=s3.toks) fun b ob q=>Heap.get?_push_of_some _ q
 obtain ⟨T,id,hT,ht,hg⟩:=hr pins { s3 with heap:=s3.heap.push { cls:=.type "slice",data:=.fields #[vl,vu,.none] } } σ H3 x v vl vu l u s3.heap.objs.size Q I4 r1 (Heap.IsSliceOf.new ..) pl pu q3
 exact tail_any ht hT hg (by with_unfolding_all rfl)
noncomputable def cutV (xs:List V) (lo hi:Option Int):List V:=(xs.drop (HT.sIx xs.length 0 lo)).take (HT.sIx xs.length xs.length hi - HT.sIx xs.length 0 lo)
theorem zEm (xs:List V) (lo hi:Option Int):(cutV xs lo hi).length≤xs.length:=by
 unfold cutV
 rw [List.length_take,List.length_drop]
 lia
noncomputable def rSlT (K:W.Frag):V→Option Int→Option Int→Hp→VK→Prop:=fun x lo hi H Q=>∃ a xs,x=.ref a∧SqT K H a xs ∧
 ¬ (HT.sIx xs.length 0 lo=0∧HT.sIx xs.length xs.length hi=xs.length)∧∀ p,H p=none→Q (.ref p) (upd H p (.tup (cutV xs lo hi)))
theorem sl_tup:SlR X (rSlT X.K):=by
 intro pins s σ H x v vl vu lo hi sl Q I rx hs pl pu h
 obtain ⟨a,xs,rfl,hx,hw,q⟩:=h
 cases rx
 obtain ⟨its,r,ht,hz⟩:=I.tuple hx
 have hlen:its.toArray.size=xs.length:=by exact r.length.symm
 refine ⟨"tuple",_,PyProof.Rows.slot_tuple_getitem.lookup,ht.typeIs,?_⟩
 refine HT.getItem_tuple_cut ht hs pl pu (by rw [hlen]; exact hw) ?_ (by rw [hlen]; exact hz)
 rw [hlen]
 refine ⟨.ref s.heap.objs.size,_,I.laid (t':=s.toks) (fun b ob q=>Heap.get?_push_of_some _ q) (Nat.le_refl _) ?_,rfl,q _ (I.hok.fresh (Nat.le_refl _))⟩
 exact ⟨Nat.le_trans (zEm xs lo hi) hz,_,(r.drop (HT.sIx xs.length 0 lo)).take (HT.sIx xs.length xs.length hi - HT.sIx xs.length 0 lo),IsTup.new _ _⟩
noncomputable def rCatT (K:W.Frag):R2:=fun x y H Q=>∃ a b xs ys,x=.ref a∧y=.ref b∧SqT K H a xs∧SqT K H b ys∧xs≠[]∧xs.length+ys.length≤sizeLine ∧
 (ys=[]→Q (.ref a) H)∧(ys≠[]→∀ p,H p=none→Q (.ref p) (upd H p (.tup (xs++ys))))
theorem Vals.nil_iff {xs:List V}{us:List Value} (r:Vals xs us):us=[]↔xs=[]:=by
 cases r with
 | nil=>simp
 | cons _ _=>simp
theorem zQL:OpR X (binaryOp .Add) (rCatT X.K):=by
 intro pins s σ H x y v u Q I rx ry h
 obtain ⟨a,b,xs,ys,rfl,rfl,ha,hb,hx,hz,q1,q2⟩:=h
 cases rx
 cases ry
 obtain ⟨its,r1,p1,_⟩:=I.tuple ha
 obtain ⟨its2,r2,p2,_⟩:=I.tuple hb
 refine HT.cat_tup p1 p2 (fun z=>hx (r1.nil_iff.mp z)) (fun z=>⟨.ref a,H,I,rfl,q1 (r2.nil_iff.mp z)⟩) (fun z=>?_) (by rw [← r1.length,← r2.length]; exact hz)
 refine ⟨.ref s.heap.objs.size,_,I.laid (t':=s.toks) (fun b ob q=>Heap.get?_push_of_some _ q) (Nat.le_refl _) ?_,rfl,q2 (fun w=>z (r2.nil_iff.mpr w)) _ (I.hok.fresh (Nat.le_refl _))⟩
 exact ⟨by rw [List.length_append]; exact hz,_,r1.append r2,IsTup.new _ _⟩
end
noncomputable def ixN (n:Nat) (i:Int):Option Nat:=if 0≤i then (if i<n then some i.toNat else none) else if -(n:Int)≤i then some (i+n).toNat else none
noncomputable def atI {α:Type} (xs:List α) (i:Int):Option α:=(ixN xs.length i).bind fun j=>xs[j]?
theorem zLz {n:Nat}{i:Int}{j:Nat} (h:ixN n i=some j):seqIndex? i n=some j∧j<n∧-(n:Int)≤i∧i<n:=by
 unfold ixN at h
 by_cases h0:0≤i
 ·rw [if_pos h0] at h
  by_cases h1:i<n
  ·rw [if_pos h1] at h
   have e:=Option.some.inj h
   exact ⟨by rw [seqIndex_of h0 h1,e],by lia,by lia,h1⟩
  ·rw [if_neg h1] at h; cases h
 ·rw [if_neg h0] at h
  by_cases h1:-n≤i
  ·rw [if_pos h1] at h
   have e:=Option.some.inj h
   exact ⟨by rw [seqIndex_neg (by lia) h1,e],by lia,h1,by lia⟩
  ·rw [if_neg h1] at h; cases h
theorem zID {α:Type}{xs:List α}{i:Int}{v:α} (h:atI xs i=some v):∃ j,seqIndex? i xs.length=some j∧xs[j]?=some v∧j<xs.length∧-(xs.length:Int)≤i∧i<xs.length:=by
 unfold atI at h
 cases e:ixN xs.length i with
 | none=>rw [e] at h; cases h
 | some j =>
  rw [e] at h
  obtain ⟨h1,h2,h3,h4⟩:=zLz e
  exact ⟨j,h1,h,h2,h3,h4⟩
theorem zEF {α:Type}{xs:List α}{j:Nat}{v:α} (h:xs[j]?=some v):atI xs (j:Int)=some v:=by
 have hj:=(List.getElem?_eq_some_iff.mp h).1
 have e:ixN xs.length j=some j:=by
  unfold ixN
  rw [if_pos (by lia),if_pos (by lia)]; simp
 unfold atI; rw [e]; exact h
def zIE (b:Expr):Prop:=∀ o i,subscripted b false o i=operate [o,i] (getItem o i)
def IxR (X:Cx) (r:R2):Prop :=
 ∀ (value slice:Expr) (pins:List (Addr × Obj)) (s:Shared) (σ:St) (H:Hp) (x y:V) (v u:Value) (Q:VK),Inv X pins σ H s→RelV x v→RelV y u→r x y H Q →
  subscripted slice false v u=operate [v,u] (getItem v u)→wpAny (model X.prog X.w) X.A (subscriptTail value slice v u) (EP X pins σ Q) X.xe s
def MtR (X:Cx) (id:String) (r:V→List V→Hp→VK→Prop):Prop :=
 ∀ (pins:List (Addr × Obj)) (s:Shared) (σ:St) (H:Hp) (x:V) (xs:List V) (v:Value) (us:List Value) (Q:VK),Inv X pins σ H s→RelV x v→Vals xs us→r x xs H Q →
  wpAny (model X.prog X.w) X.A (call (.builtin id) (v::us)) (EP X pins σ Q) X.xe s
section
variable {X:Cx}{a b:Expr}{ta tb:TE}{pos:Pos}
theorem pe_ix {r:R2} (hr:IxR X r) (ha:PE X a ta) (hb:PE X b tb) (hs:zIE b):PE X (.Subscript a b pos) (tOp r ta tb):=by
 intro pins s σ H Q I h
 exact Subscript_ (binT ha hb I h fun v u s2 x y H2 I2 rx ry q=>hr a b pins s2 σ H2 x y v u Q I2 rx ry q (hs _ _))
noncomputable def rIxL (K:W.Frag):R2:=fun x y H Q=>∃ p xs i v,x=.ref p∧y=.int i∧SqL K H p xs∧atI xs i=some v∧Q v H
noncomputable def rIxT (K:W.Frag):R2:=fun x y H Q=>∃ p xs i v,x=.ref p∧y=.int i∧SqT K H p xs∧atI xs i=some v∧Q v H
noncomputable def rIxS:R2:=fun x y H Q=>∃ z i c,x=.str z∧y=.int i∧z.length≤sizeLine∧atI z.cps.toList i=some c∧Q (.str ⟨#[c]⟩) H
theorem ix_list:IxR X (rIxL X.K):=by
 intro value slice pins s σ H x y v u Q I rx ry h hs
 obtain ⟨p,xs,i,z,rfl,rfl,hq,he,q⟩:=h
 cases rx
 obtain ⟨t,rfl⟩:=ry
 obtain ⟨its,r,pl,hz⟩:=I.list hq
 obtain ⟨j,h1,h2,h3,h4,h5⟩:=zID he
 obtain ⟨w,ew,rw'⟩:=r.get h2
 have hl:=r.length
 have hn:=zFr
 have fin:EP X pins σ Q w s:=⟨z,H,I,rw',q⟩
 by_cases h0:0≤i
 ·have hj:=by
   rw [seqIndex_of h0 h5] at h1
   exact Option.some.inj h1
  exact item_listR pl.isList h0 (by lia) (by rw [hj]; simpa using ew) fin hs
 ·have hj:(i+its.toArray.size).toNat=j:=by
   rw [seqIndex_neg (by lia) h4] at h1
   rw [List.size_toArray,← hl]
   exact Option.some.inj h1
  exact subscriptTail_builtinR pl.isList.typeIs slot_list_getitem.lookup
   (wpAny_getItem_list_neg pl.isList (by lia) (by rw [List.size_toArray] <;> lia) (by lia) (by rw [hj]; simpa using ew) ⟨rfl,fin⟩) hs
theorem ix_tup:IxR X (rIxT X.K):=by
 intro value slice pins s σ H x y v u Q I rx ry h hs
 obtain ⟨p,xs,i,z,rfl,rfl,hq,he,q⟩:=h
 cases rx
 obtain ⟨t,rfl⟩:=ry
 obtain ⟨its,r,pl,hz⟩:=I.tuple hq
 obtain ⟨j,h1,h2,h3,h4,h5⟩:=zID he
 obtain ⟨w,ew,rw'⟩:=r.get h2
 have hl:=r.length
 have hn:=zFr
 have fin:EP X pins σ Q w s:=⟨z,H,I,rw',q⟩
 exact subscriptTail_builtinR pl.typeIs slot_tuple_getitem.lookup
  (getItem_tuple pl (by lia) (by lia) (by rw [List.size_toArray,← hl]; exact h1) (by simpa using ew) ⟨rfl,fin⟩) hs
theorem ix_str:IxR X rIxS:=by
 intro value slice pins s σ H x y v u Q I rx ry h hs
 obtain ⟨z,i,c,rfl,rfl,hz,he,q⟩:=h
 obtain ⟨t,rfl⟩:=rx
 obtain ⟨t',rfl⟩:=ry
 obtain ⟨j,h1,h2,h3,h4,h5⟩:=zID he
 have hl:z.cps.toList.length=z.length:=by simp [Str.length]
 rw [hl] at h1 h4 h5
 have hn:=zFr
 exact tail_any (typeIs_str s z t) slot_str_getitem.lookup (getItem_str (c:=c) (by
  have e1:decide (i < -(2 ^ 63:Int))=false:=decide_eq_false (by lia)
  have e2:decide (i≥2 ^ 63)=false:=decide_eq_false (by lia)
  rw [e1,e2,Bool.or_false]) (by rw [h1]; simpa using h2) ⟨.str ⟨#[c]⟩,H,I.tok _,⟨_,rfl⟩,q⟩) hs
theorem zJH (its:List Value) (n j:Nat) (u:Value):Obj.mapSeq (·.setIfInBounds j u) { cls:=.type "list",data:=.seq its.toArray n }={ cls:=.type "list",data:=.seq (its.set j u).toArray n }:=by
 simp [Obj.mapSeq]
theorem Inv.lst {pins:List (Addr × Obj)}{σ:St}{H:Hp}{s:Shared}{p:Addr}{xs:List V} (I:Inv X pins σ H s) (h:H p=some (.lst xs)) :
  ∃ (its:List Value) (n:Nat),Vals xs its∧s.heap.get? p=some { cls:=.type "list",data:=.seq its.toArray n }∧xs.length≤sizeLine:=by
 obtain ⟨z,its,n,r,e⟩:=I.hok p _ h
 exact ⟨its,n,r,e,z⟩
theorem Inv.lstUpd {pins:List (Addr × Obj)}{σ:St}{H:Hp}{s:Shared}{p:Addr}{xs ys:List V}{its its':List Value}{n n':Nat}{f:Obj→Obj} (I:Inv X pins σ H s) (h:H p=some (.lst xs))
  (ho:s.heap.get? p=some { cls:=.type "list",data:=.seq its.toArray n }) (hf:f { cls:=.type "list",data:=.seq its.toArray n }={ cls:=.type "list",data:=.seq its'.toArray n' }) (r:Vals ys its') (hz:ys.length≤sizeLine) (t:Nat) :
  Inv X pins σ (upd H p (.lst ys)) { s with heap:=s.heap.update p f,toks:=t }:=by
 have e:(s.heap.update p f).get? p=some { cls:=.type "list",data:=.seq its'.toArray n' }:=by
  rw [Heap.get?_update_self f ho (by rw [hf] <;> rfl),hf]
 refine I.write (by rw [h]; trivial) (.inl rfl) (fun b u hb q=>(Heap.get?_update_other _ _ (Ne.symm hb)).trans q) ⟨_,e⟩ ?_
 exact ⟨hz,its',n',r,e⟩
noncomputable def rSetL:V→V→V→Hp→(Hp→Prop)→Prop:=fun o i v H Q=>∃ p xs k j,o=.ref p∧i=.int k∧H p=some (.lst xs)∧ixN xs.length k=some j∧Q (upd H p (.lst (xs.set j v)))
theorem zNi:PSet X rSetL:=by
 intro pins s σ H o i v ov iv u Q I ro ri rv h
 obtain ⟨p,xs,k,j,rfl,rfl,hp,hj,q⟩:=h
 cases ro
 obtain ⟨t,rfl⟩:=ri
 obtain ⟨its,n,r,ho,hz⟩:=I.lst hp
 obtain ⟨h1,h2,h3,h4⟩:=zLz hj
 have hl:=r.length
 have hn:=zFr
 have I' :=
  I.lstUpd hp ho (zJH its n j u) (r.set rv j) (by rw [List.length_set]; exact hz) s.toks
 by_cases h0:0≤k
 ·have hk:=by
   rw [seqIndex_of h0 h4] at h1
   exact Option.some.inj h1
  exact W.ki_setAt ho h0 (by lia) (by rw [List.size_toArray,← hl]; exact h4) (by rw [hk]; exact ⟨_,I',q⟩)
 ·have hk:(k+its.toArray.size).toNat=j:=by
   rw [seqIndex_neg (by lia) h3] at h1
   rw [List.size_toArray,← hl]
   exact Option.some.inj h1
  exact W.ki_setBack ho (by lia) (by rw [List.size_toArray,← hl]; exact h3) (by lia) (by rw [hk]; exact ⟨_,I',q⟩)
theorem zGw (lo hi:Option Int) (n:Nat):(sliceBounds lo hi none n).1=((HT.sIx n 0 lo:Nat):Int)∧(sliceBounds lo hi none n).2.1=((HT.sIx n n hi:Nat):Int)∧(sliceBounds lo hi none n).2.2=1:=by
 refine ⟨?_,?_,rfl⟩
 ·cases lo with
  | none=>simp [sliceBounds,HT.sIx]
  | some i =>
   simp only [sliceBounds,HT.sIx,Option.getD_none,show (1:Int)>0 by decide,if_true]
   by_cases h:i<0
   ·simp only [h,if_true] <;> lia
   ·simp only [h,if_false] <;> lia
 ·cases hi with
  | none=>simp [sliceBounds,HT.sIx]
  | some i =>
   simp only [sliceBounds,HT.sIx,Option.getD_none,show (1:Int)>0 by decide,if_true]
   by_cases h:i<0
   ·simp only [h,if_true] <;> lia
   ·simp only [h,if_false] <;> lia
theorem zFG (its:List Value) (lo hi:Option Int):slicePick its.toArray lo hi none=((its.drop (HT.sIx its.length 0 lo)).take (HT.sIx its.length its.length hi - HT.sIx its.length 0 lo)).toArray:=by
 obtain ⟨h1,h2,h3⟩:=zGw lo hi its.toArray.size
 unfold slicePick
 rw [h1,h2,h3]
 simp only [sliceRange_one,pick_run] <;> rfl
noncomputable def rSlL (K:W.Frag):V→Option Int→Option Int→Hp→VK→Prop:=fun x lo hi H Q=>∃ a xs,x=.ref a∧SqL K H a xs∧∀ p,H p=none→Q (.ref p) (upd H p (.lst (cutV xs lo hi)))
theorem zKD:SlR X (rSlL X.K):=by
 intro pins s σ H x v vl vu lo hi sl Q I rx hs pl pu h
 obtain ⟨a,xs,rfl,hx,q⟩:=h
 cases rx
 obtain ⟨its,r,ht,hz⟩:=I.list hx
 have hlen:=r.length
 refine ⟨"list",_,slot_list_getitem.lookup,ht.isList.typeIs,?_⟩
 refine wpAny_getItem_list_slice ht.isList hs pl pu .none (by simp) ?_ (by rw [List.size_toArray] <;> lia)
 rw [zFG,← hlen]
 refine ⟨.ref s.heap.objs.size,_,I.laid (t':=s.toks) (fun b ob q=>Heap.get?_push_of_some _ q) (Nat.le_refl _) ?_,rfl,q _ (I.hok.fresh (Nat.le_refl _))⟩
 exact ⟨Nat.le_trans (zEm xs lo hi) hz,_,0,(r.drop (HT.sIx xs.length 0 lo)).take (HT.sIx xs.length xs.length hi - HT.sIx xs.length 0 lo),Heap.get?_push_size _ rfl⟩
noncomputable def zER:V→Bool
 | .non=>true
 | .bl _=>true
 | .int _=>true
 | .str _=>true
 | _=>false
noncomputable def eqV:V→V→Bool
 | .non,.non=>true
 | .bl a,.bl b=>a == b
 | .bl a,.int b=>(if a then 1 else 0) == b
 | .int a,.bl b=>a == (if b then 1 else 0)
 | .int a,.int b=>a == b
 | .str a,.str b=>a == b
 | _,_=>false
theorem eqAt_V {A:Around}{s:Shared}{y x:V}{u v:Value} (ry:RelV y u) (rx:RelV x v) (fy:zER y=true) (fx:zER x=true):SeqAt.EqAt A s u v (eqV y x):=by
 cases y with
 | non =>
  cases ry
  cases x with
  | non=>cases rx; exact SeqAt.EqAt.same _
  | bl b=>cases rx; exact SeqAt.EqAt.none_bool b
  | int b=>obtain ⟨t,rfl⟩:=rx; exact SeqAt.EqAt.none_int b t
  | str b=>obtain ⟨t,rfl⟩:=rx; exact SeqAt.EqAt.none_str b t
  | _=>exact absurd (show false=true from fx) Bool.false_ne_true
 | bl a =>
  cases ry
  cases x with
  | non=>cases rx; exact SeqAt.EqAt.bool_none a
  | bl b=>cases rx; exact SeqAt.EqAt.bool_bool a b
  | int b=>obtain ⟨t,rfl⟩:=rx; exact SeqAt.EqAt.bool_int a b t
  | str b=>obtain ⟨t,rfl⟩:=rx; exact SeqAt.EqAt.bool_str a b t
  | _=>exact absurd (show false=true from fx) Bool.false_ne_true
 | int a =>
  obtain ⟨t',rfl⟩:=ry
  cases x with
  | non=>cases rx; exact SeqAt.EqAt.int_none a t'
  | bl b=>cases rx; exact SeqAt.EqAt.int_bool a t' b
  | int b=>obtain ⟨t,rfl⟩:=rx; exact SeqAt.EqAt.int_int a t' b t
  | str b=>obtain ⟨t,rfl⟩:=rx; exact SeqAt.EqAt.int_str a t' b t
  | _=>exact absurd (show false=true from fx) Bool.false_ne_true
 | str a =>
  obtain ⟨t',rfl⟩:=ry
  cases x with
  | non=>cases rx; exact SeqAt.EqAt.str_none a t'
  | bl b=>cases rx; exact SeqAt.EqAt.str_bool a t' b
  | int b=>obtain ⟨t,rfl⟩:=rx; exact SeqAt.EqAt.str_int a t' b t
  | str b=>obtain ⟨t,rfl⟩:=rx; exact SeqAt.EqAt.str_str a t' b t
  | _=>exact absurd (show false=true from fx) Bool.false_ne_true
 | _=>exact absurd (show false=true from fy) Bool.false_ne_true
noncomputable def eqU (x:V) (u:Value):Bool:=match u with
 | .none=>eqV .non x
 | .bool b=>eqV (.bl b) x
 | .int i _=>eqV (.int i) x
 | .str z _=>eqV (.str z) x
 | _=>false
theorem zPt {x y:V}{u:Value} (r:RelV y u) (f:zER y=true):eqU x u=eqV y x:=by
 cases y with
 | non=>cases r; rfl
 | bl b=>cases r; rfl
 | int i=>obtain ⟨t,rfl⟩:=r; rfl
 | str z=>obtain ⟨t,rfl⟩:=r; rfl
 | _=>exact absurd (show false=true from f) Bool.false_ne_true
theorem zEH {x:V}:∀ {xs:List V}{us:List Value},Vals xs us→xs.all zER=true→us.any (eqU x)=xs.any fun y=>eqV y x
 | _,_,.nil,_=>rfl
 | y::xs,u::us,.cons r t,f=>by
  rw [List.all_cons,Bool.and_eq_true] at f
  rw [List.any_cons,List.any_cons,zPt r f.1,zEH t f.2]
theorem zCV {A:Around}{s:Shared}{x:V}{v:Value} (rx:RelV x v) (fx:zER x=true):∀ {xs:List V}{us:List Value},Vals xs us→xs.all zER=true→∀ u∈us,SeqAt.EqAt A s u v (eqU x u)
 | _,_,.nil,_=>fun u hu=>by cases hu
 | y::xs,u::us,.cons r t,f=>fun u' hu=>by
  rw [List.all_cons,Bool.and_eq_true] at f
  rcases List.mem_cons.mp hu with rfl | hu
  ·rw [zPt r f.1]; exact eqAt_V r rx f.1 fx
  ·exact zCV rx fx t f.2 u' hu
noncomputable def inV (x:V) (xs:List V):Bool:=xs.any fun y=>eqV y x
noncomputable def rIn (K:W.Frag) (neg:Bool):R2:=fun x y H Q=>∃ p xs,y=.ref p∧(SqL K H p xs∨SqT K H p xs)∧zER x=true∧xs.all zER=true∧Q (.bl (if neg then !inV x xs else inV x xs)) H
theorem zLb:OpR X (compareOp .In) (rIn X.K false):=by
 intro pins s σ H x y v u Q I rx ry h
 obtain ⟨p,xs,rfl,hq,fx,fs,q⟩:=h
 cases ry
 rcases hq with hq | hq
 ·obtain ⟨its,r,pl,hz⟩:=I.list hq
  refine SeqAt.in_listAt (eqU x) pl.isList (fun w hw=>zCV rx fx r fs w (by simpa using hw)) ⟨.bl _,H,I,rfl,?_⟩
  rw [show its.toArray.any (eqU x)=its.any (eqU x) by simp,zEH r fs]
  exact q
 ·obtain ⟨its,r,pl,hz⟩:=I.tuple hq
  refine SeqAt.in_tupleAt (eqU x) pl (fun w hw=>zCV rx fx r fs w (by simpa using hw)) ⟨.bl _,H,I,rfl,?_⟩
  rw [show its.toArray.any (eqU x)=its.any (eqU x) by simp,zEH r fs]
  exact q
theorem zGH:OpR X (compareOp .NotIn) (rIn X.K true):=by
 intro pins s σ H x y v u Q I rx ry h
 obtain ⟨p,xs,rfl,hq,fx,fs,q⟩:=h
 cases ry
 rcases hq with hq | hq
 ·obtain ⟨its,r,pl,hz⟩:=I.list hq
  refine SeqAt.notIn_listAt (eqU x) pl.isList (fun w hw=>zCV rx fx r fs w (by simpa using hw)) ⟨.bl _,H,I,rfl,?_⟩
  rw [show its.toArray.any (eqU x)=its.any (eqU x) by simp,zEH r fs]
  exact q
 ·obtain ⟨its,r,pl,hz⟩:=I.tuple hq
  refine SeqAt.notIn_tupleAt (eqU x) pl (fun w hw=>zCV rx fx r fs w (by simpa using hw)) ⟨.bl _,H,I,rfl,?_⟩
  rw [show its.toArray.any (eqU x)=its.any (eqU x) by simp,zEH r fs]
  exact q
theorem zDy:zAw X (.builtin "len") (fun xs H Q=>∃ p ys,xs=[.ref p]∧(SqL X.K H p ys∨SqT X.K H p ys)∧Q (.int ys.length) H):=by
 intro pins s σ H xs us Q I r h
 obtain ⟨p,ys,rfl,hq,q⟩:=h
 obtain ⟨u,rfl,rx⟩:=zBm r
 cases rx
 have hn:=zFr
 rcases hq with hq | hq
 ·obtain ⟨its,r',pl,hz⟩:=I.list hq
  have hlen:=r'.length
  exact Calls.call_len_list pl.isList (by simp only [List.size_toArray] <;> lia) ⟨.int ys.length,H,I.tok _,⟨s.toks+1,by rw [List.size_toArray,hlen]⟩,q⟩
 ·obtain ⟨its,r',pl,hz⟩:=I.tuple hq
  have hlen:=r'.length
  exact len_tuple pl (by simp only [List.size_toArray] <;> lia) ⟨.int ys.length,H,I.tok _,⟨s.toks+1,by rw [List.size_toArray,hlen]⟩,q⟩
theorem zHk:zAw X (.builtin "len") (fun xs H Q=>∃ z,xs=[.str z]∧z.length≤sizeLine∧Q (.int z.length) H):=by
 intro pins s σ H xs us Q I r h
 obtain ⟨z,rfl,hz,q⟩:=h
 obtain ⟨u,rfl,t,rfl⟩:=zBm r
 have hn:=zFr
 exact len_str (by lia) ⟨.int z.length,H,I.tok _,⟨_,rfl⟩,q⟩
theorem zHj:zAw X (.type "list") (fun xs H Q=>∃ p ys,xs=[.ref p]∧(SqL X.K H p ys∨SqT X.K H p ys)∧∀ l,H l=none→Q (.ref l) (upd H l (.lst ys))):=by
 intro pins s σ H xs us Q I r h
 obtain ⟨p,ys,rfl,hq,q⟩:=h
 obtain ⟨u,rfl,rx⟩:=zBm r
 cases rx
 have fin:∀ its,Vals ys its→ys.length≤sizeLine→∀ h' c',(∀ b o',s.heap.get? b=some o'→h'.get? b=some o') →
   h'.get? s.heap.objs.size=some { cls:=.type "list",dict:=none,data:=.seq its.toArray c',slots:=#[] }→EP X pins σ Q (.ref s.heap.objs.size) { s with heap:=h' }:=fun its r' hz h' c' kp e =>
  ⟨.ref s.heap.objs.size,_,I.laid (t':=s.toks) kp (Nat.le_refl _) (show zAV X.prog X.w _ h' _ (.lst ys) from ⟨hz,its,c',r',e⟩),rfl,q _ (I.hok.fresh (Nat.le_refl _))⟩
 rcases hq with hq | hq
 ·obtain ⟨its,r',pl,hz⟩:=I.list hq
  have hlen:=r'.length
  obtain ⟨o,ho,hc,n,hd⟩:=pl.isList
  exact call_list_seq p (.inl rfl) ho hc hd (fun h' c' kp e=>fin its r' hz h' c' kp e) (by simp only [List.size_toArray] <;> lia)
 ·obtain ⟨its,r',pl,hz⟩:=I.tuple hq
  have hlen:=r'.length
  obtain ⟨o,ho,hc,n,hd⟩:=pl
  exact call_list_seq p (.inr rfl) ho hc hd (fun h' c' kp e=>fin its r' hz h' c' kp e) (by simp only [List.size_toArray] <;> lia)
theorem zD2:zAw X (.type "tuple") (fun xs H Q=>∃ p ys,xs=[.ref p]∧((SqL X.K H p ys∧∀ l,H l=none→Q (.ref l) (upd H l (.tup ys)))∨(SqT X.K H p ys∧Q (.ref p) H))):=by
 intro pins s σ H xs us Q I r h
 obtain ⟨p,ys,rfl,h⟩:=h
 obtain ⟨u,rfl,rx⟩:=zBm r
 cases rx
 rcases h with ⟨hq,q⟩ | ⟨hq,q⟩
 ·obtain ⟨its,r',pl,hz⟩:=I.list hq
  have hlen:=r'.length
  refine call_tuple_list pl.isList (fun h' kp=>?_) (by simp only [List.size_toArray] <;> lia)
  have I1:=I.kept (t':=s.toks) kp
  have I2 :=
   I1.laid (t':=s.toks) (fun b o e=>Heap.get?_push_of_some _ e) (Nat.le_refl _) (show zAV X.prog X.w _ _ _ (.tup ys) from ⟨hz,its,r',IsTup.new _ _⟩)
  exact ⟨.ref h'.objs.size,_,I2,rfl,q _ (I1.hok.fresh (Nat.le_refl _))⟩
 ·obtain ⟨its,r',pl,hz⟩:=I.tuple hq
  exact call_tuple_same pl ⟨.ref p,H,I,rfl,q⟩
def tyV (K:W.Frag) (T:String) (x:V) (H:Hp):Prop:=match x with
 | .str _=>T = "str"
 | .int _=>T = "int"
 | .ref p=>(T = "list"∧∃ xs,SqL K H p xs)∨(T = "tuple"∧∃ o,K.lookup p=some o∧o.cls=.type "tuple"∧o.dict=none) ∨
   (T = "dict"∧((∃ kvs,H p=some (.dK kvs))∨∃ kvs,H p=some (.dT kvs)))∨(T = "set"∧∃ S n,H p=some (.set S n))
 | _=>False
theorem tyV_is {pins:List (Addr × Obj)}{σ:St}{H:Hp}{s:Shared}{T:String}{x:V}{v:Value} (I:Inv X pins σ H s) (r:RelV x v) (ty:tyV X.K T x H) :
  s.TypeIs v T∧∀ a,v=.ref a→∃ ob,s.heap.get? a=some ob∧ob.dict=none:=by
 cases x with
 | str z =>
  obtain ⟨t,rfl⟩:=r
  cases (show T = "str" from ty)
  exact ⟨typeIs_str s z t,fun _ e=>nomatch e⟩
 | int i =>
  obtain ⟨t,rfl⟩:=r
  cases (show T = "int" from ty)
  exact ⟨typeIs_int s i t,fun _ e=>nomatch e⟩
 | ref p =>
  cases r
  rcases ty with ⟨rfl,xs,hq⟩ | ⟨rfl,o,hk,hc,hd⟩ | ⟨rfl,hk⟩ | ⟨rfl,S,n,hk⟩
  ·obtain ⟨its,_,pl,_⟩:=I.list hq
   refine ⟨pl.isList.typeIs,fun a e=>?_⟩
   cases e
   obtain ⟨o,n,e,c,hd,_⟩:=pl
   exact ⟨o,e,hd⟩
  ·refine ⟨⟨o,I.kIn p o hk,hc⟩,fun a e=>?_⟩
   cases e
   exact ⟨o,I.kIn _ o hk,hd⟩
  ·have z:∃ o,s.heap.get? p=some o∧o.ExactDict:=by
    rcases hk with ⟨kvs,hk⟩ | ⟨kvs,hk⟩
    ·obtain ⟨_,_,_,_,o,_,_,e,ex,_⟩:=I.hok p _ hk
     exact ⟨o,e,ex⟩
    ·obtain ⟨_,_,_,_,o,_,_,e,ex,_⟩:=I.hok p _ hk
     exact ⟨o,e,ex⟩
   obtain ⟨o,e,ex⟩:=z
   refine ⟨⟨o,e,ex.1⟩,fun a e2=>?_⟩
   cases e2
   exact ⟨o,e,ex.2.1⟩
  ·obtain ⟨o,_,_,_,e,ex,_⟩:=I.hok p _ hk
   refine ⟨⟨o,e,ex.1⟩,fun a e2=>?_⟩
   cases e2
   exact ⟨o,e,ex.2.1⟩
 | _=>exact False.elim ty
noncomputable def tBM (K:W.Frag) (T:String) (r:V→List V→Hp→VK→Prop) (to:TE) (t:TA):TE:=fun σ H Q=>to σ H fun x H1=>tyV K T x H1∧t σ H1 fun xs H2=>r x xs H2 Q
variable {o e:Expr}{es:List Expr}{to:TE}{t:TA}{name:Str}{apos cpos:Pos}{T id:String}{r:V→List V→Hp→VK→Prop}
theorem pe_bm (pa:PlainAttrs T) (slot:Slot T name id) (hty:typeOf (.builtin id)=pure (.type "method_descriptor")) (hm:MtR X id r) (ho:PE X o to) (ha:PA X (e::es) t)
  (hbase:attributeBase o name X.env (eval o X.env)=eval o X.env:=by rfl)
  (hfew:((backTo cpos (starEach (e::es) X.env)).all (fun x=>!x.1)&&(backToKw cpos (keywordEach [] X.env)).all (fun x=>x.1.isSome)
   && decide ((e::es).length+([]:List Keyword).length+(if ([]:List Keyword).isEmpty then 0 else 1)<30))=true:=by rfl)
  (hline:(apos.endLine == cpos.line)=true:=by rfl) (hs:starEach (e::es) X.env=(false,eval e X.env)::starEach es X.env:=by rfl) (hplain:(backTo cpos (starEach es X.env)).any (·.1)=false:=by rfl) :
  PE X (.Call (.Attribute o name apos) (e::es) [] cpos) (tBM X.K T r to t):=by
 intro pins s σ H Q I h
 refine wpAny_Call_method_late hbase hfew hline rfl (thn (ho pins s σ H _ I h) fun v s1 ⟨x,H1,I1,r1,ty,q1⟩=>?_)
 obtain ⟨h1,h2⟩:=tyV_is I1 r1 ty
 refine ⟨T,id,pa,slot,hty,h1,h2,?_⟩
 have hA:=ha cpos pins s1 σ H1 _ I1 q1
 rw [hs] at hA ⊢
 refine Calls.callWith_builtin (by show (false||(backTo cpos (starEach es X.env)).any (·.1))=false; rw [hplain] <;> rfl) (Calls.evalArgs_plain ?_)
 exact thn hA fun us s2 ⟨vs,H2,I2,r2,q2⟩=>hm pins s2 σ H2 x vs v us Q I2 r1 r2 q2
end
def MtM (X:Cx) (id:String) (r:V→List V→Hp→VK→Prop):Prop :=
 ∀ (pins:List (Addr × Obj)) (s:Shared) (σ:St) (H:Hp) (x:V) (xs:List V) (v:Value) (us:List Value) (Q:VK),Inv X pins σ H s→RelV x v→Vals xs us→r x xs H Q →
  wpAny (model X.prog X.w) X.A (call (.builtin id) (v::us)) (EP X pins σ Q) X.xe s
theorem Vals.cinv {x:V}{xs:List V}:∀ {us:List Value},Vals (x::xs) us→∃ u r,us=u::r∧RelV x u∧Vals xs r
 | _,.cons r t=>⟨_,_,rfl,r,t⟩
theorem Vals.ninv:∀ {us:List Value},Vals [] us→us=[]
 | _,.nil=>rfl
theorem Vals.one {x:V}{us:List Value} (h:Vals [x] us):∃ u,us=[u]∧RelV x u:=by
 obtain ⟨u,r,rfl,a,t⟩:=h.cinv
 rw [t.ninv]
 exact ⟨u,rfl,a⟩
theorem Vals.two {x y:V}{us:List Value} (h:Vals [x,y] us):∃ u v,us=[u,v]∧RelV x u∧RelV y v:=by
 obtain ⟨u,r,rfl,a,t⟩:=h.cinv
 obtain ⟨v,rfl,b⟩:=t.one
 exact ⟨u,v,rfl,a,b⟩
theorem Vals.eraseIdx:∀ {xs:List V}{us:List Value} (i:Nat),Vals xs us→Vals (xs.eraseIdx i) (us.eraseIdx i)
 | _,_,_,.nil=>.nil
 | _,_,0,.cons _ t=>t
 | _,_,i+1,.cons r t=>.cons r (Vals.eraseIdx i t)
theorem zGQ {α:Type}:∀ (l:List α) (i:Nat),(l.eraseIdx i).length≤l.length
 | [],_=>Nat.le_refl _
 | _::_,0=>Nat.le_succ _
 | _::r,i+1=>Nat.succ_le_succ (zGQ r i)
section
variable {X:Cx}{pins:List (Addr × Obj)}{σ:St}{H:Hp}{s:Shared}{l b:Addr}{xs ys zs:List V}
theorem Inv.lset {its its':List Value}{n:Nat}{f:Array Value→Array Value}{t':Nat} (I:Inv X pins σ H s) (hH:H l=some (.lst xs))
  (e:s.heap.get? l=some { cls:=.type "list",data:=.seq its.toArray n }) (hf:f its.toArray=its'.toArray) (hv:Vals ys its') (hz:ys.length≤sizeLine) :
  Inv X pins σ (upd H l (.lst ys)) { s with heap:=s.heap.update l (Obj.mapSeq f),toks:=t' }:=by
 have q:=PySem.IsL.update e f
 rw [hf] at q
 refine I.write (by rw [hH]; exact trivial) (.inl rfl) (fun b' u hb hu=>(Heap.get?_update_other s.heap (Obj.mapSeq f) (Ne.symm hb)).trans hu) ⟨_,q⟩ ?_
 exact ⟨hz,its',_,hv,q⟩
theorem Inv.lnew {its:List Value}{t':Nat} (I:Inv X pins σ H s) (hv:Vals ys its) (hz:ys.length≤sizeLine) :
  Inv X pins σ (upd H s.heap.objs.size (.lst ys)) { s with heap:=s.heap.push { cls:=.type "list",data:=.seq its.toArray },toks:=t' } :=
 I.laid (fun _ _ q=>Heap.get?_push_of_some _ q) (Nat.le_refl _) ⟨hz,its,0,hv,Heap.get?_push_size _ rfl⟩
theorem Inv.fresh (I:Inv X pins σ H s):H s.heap.objs.size=none:=I.hok.fresh (Nat.le_refl _)
theorem Inv.lstM (I:Inv X pins σ H s) (hH:H l=some (.lst xs)):xs.length≤sizeLine∧∃ (its:List Value) (n:Nat),Vals xs its∧xs.length=its.length∧s.heap.get? l=some { cls:=.type "list",data:=.seq its.toArray n }:=by
 obtain ⟨z,its,n,r,e⟩:=I.hok l _ hH
 exact ⟨z,its,n,r,r.length,e⟩
end
section
variable {X:Cx}
noncomputable def zQk:V→List V→Hp→VK→Prop:=fun x vs H Q=>∃ l xs y,x=.ref l∧vs=[y]∧H l=some (.lst xs)∧xs.length<sizeLine∧Q .non (upd H l (.lst (xs++[y])))
theorem zE1:MtM X "list.append" zQk:=by
 intro pins s σ H x vs v us Q I rx rv h
 obtain ⟨l,xs,y,rfl,rfl,hH,hz,q⟩:=h
 cases rx
 obtain ⟨u,rfl,ru⟩:=rv.one
 obtain ⟨z,its,n,r,hl,e⟩:=I.lstM hH
 refine call_meets F.slot_list_append ⟨_,e,rfl⟩ F.entry_list_append (F.args_list_append_2 _ _) (PySem.list_append l its.toArray n u (by rw [List.size_toArray]; lia)) ⟨e,?_⟩
 refine ⟨.non,_,I.lset (its':=its++[u]) hH e (by simp) (r.append (.cons ru .nil)) ?_,rfl,q⟩
 rw [List.length_append,List.length_singleton]
 lia
noncomputable def rPopAt:V→List V→Hp→VK→Prop:=fun x vs H Q=>∃ l xs i k y,x=.ref l∧vs=[.int i]∧H l=some (.lst xs)∧-(2 ^ 63)≤i∧i<2 ^ 63∧seqIndex? i xs.length=some k∧xs[k]?=some y∧Q y (upd H l (.lst (xs.eraseIdx k)))
theorem zO0:MtM X "list.pop" rPopAt:=by
 intro pins s σ H x vs v us Q I rx rv h
 obtain ⟨l,xs,i,k,y,rfl,rfl,hH,h1,h2,hk,hy,q⟩:=h
 cases rx
 obtain ⟨u,rfl,ru⟩:=rv.one
 obtain ⟨t,rfl⟩:=ru
 obtain ⟨z,its,n,r,hl,e⟩:=I.lstM hH
 obtain ⟨w,hw,rw'⟩:=r.get hy
 refine call_meets F.slot_list_pop ⟨_,e,rfl⟩ F.entry_list_pop (F.args_list_pop_2 _ _)
  (MeetsSeq.list_pop_at l its.toArray n i t k w (fitsIndex_both h1 h2) (by rw [List.size_toArray,← hl]; exact hk) (by rw [← Array.getElem?_toList]; exact hw) (by rw [List.size_toArray]; lia)) ⟨e,?_⟩
 refine ⟨y,_,I.lset (its':=its.eraseIdx k) hH e ?_ (r.eraseIdx k) ?_,rw',q⟩
 ·show its.toArray.eraseIdxIfInBounds k=(its.eraseIdx k).toArray
  rw [List.eraseIdxIfInBounds_toArray]
 ·have:=zGQ xs k
  lia
noncomputable def rCat:R2:=fun x y H Q=>∃ l b xs zs,x=.ref l∧y=.ref b∧H l=some (.lst xs)∧H b=some (.lst zs)∧xs.length+zs.length≤sizeLine∧∀ p,H p=none→Q (.ref p) (upd H p (.lst (xs++zs)))
theorem op_cat:OpR X (binaryOp .Add) rCat:=by
 intro pins s σ H x y v u Q I rx ry h
 obtain ⟨l,b,xs,zs,rfl,rfl,hH,hB,hz,q⟩:=h
 cases rx
 cases ry
 obtain ⟨z,its,n,r,hl,e⟩:=I.lstM hH
 obtain ⟨z2,its2,n2,r2,hl2,e2⟩:=I.lstM hB
 refine PySem.P.add_list e e2 ?_ (by rw [List.size_toArray,List.size_toArray]; lia)
 have ea:its.toArray++its2.toArray=(its++its2).toArray:=by simp
 rw [ea]
 exact ⟨.ref _,_,I.lnew (t':=s.toks) (r.append r2) (by rw [List.length_append]; lia),rfl,q _ I.fresh⟩
end
end L2
namespace Att
open PySem PySem.W PySem.Calls PyProof.Rows
theorem zEc {P:Params}{h:Heap}:∀ (ns:List Int) (vs:List Value),WellAll P h vs (ns.map WData.int)→IntsAre vs ns:=by
 intro ns
 induction ns with
 | nil =>
  intro vs w
  cases w
  exact .nil
 | cons n ns ih =>
  intro vs w
  cases w with
  | cons a b =>
   cases a
   exact .cons _ _ (ih _ b)
theorem zKK {l:OpenLaw}{n:Nat} (hn:l.most=some n) {P:Params}{h:Heap}{args:List WData}{vals:List Value}
  (hpre:l.row.toRowW.claim.pre args=true) (hwl:WellAll P h vals args) :
  ∃ a vs ns,vals=[Value.ref a]∧args=[WData.list (ns.map WData.int)]∧h.get? a=some { cls:=.type "list",data:=.seq vs.toArray }∧IntsAre vs ns∧ns.length≤n:=by
 have hsh:WShape.hasAll [] args [.list .int]=true:=(pre_splitW hpre).1
 have hc:l.pre.holds [] { args:=args }=true:=(pre_splitW hpre).2
 obtain ⟨d,r,rfl,h1,h2⟩:=hasAllW_cons hsh
 obtain rfl:=hasAllW_nil h2
 obtain ⟨xs,rfl,h3⟩:=hasW_list h1
 obtain ⟨ns,rfl⟩:=items_int h3
 have hlen:ns.length≤n:=by
  have h4:=by
   have h4:=(holds_andW hc).1
   rw [hn] at h4
   exact h4
  have h5:=condW_of h4 (w_not (w_lt w_lit (w_len_list (w_arg rfl))))
  rw [List.length_map] at h5
  refine Nat.le_of_not_lt fun q=>?_
  have q':n<(ns.length:Int):=by omega
  first
   | (rw [decide_eq_true q'] at h5; exact absurd h5 (by decide))
   | (simp at h5)
 cases hwl with
 | cons w1 w2 =>
  cases w2
  cases w1 with
  | list ho hall=>exact ⟨_,_,ns,rfl,rfl,ho,zEc ns _ hall,hlen⟩
theorem zKZ (l:OpenLaw) (args:List WData):l.row.toRowW.claim.post args (.bool true) args=true :=
 postW_of
  (by first | rfl | decide | simp [WShape.arms])
  (w_eq_bool (w_res rfl) w_lit) rfl
theorem attach_call {l:OpenLaw}{n:Nat}{q:Program}{loose:List Str}{XP:(Str→Option Value)→Heap→Prop}{YP:World→Heap→Prop}{d:DefRec}
  (hn:l.most=some n) (hdf:d.params.defaults=[])
  (call:∀ (w:World) (s₀ s₁:Shared) (mg mb:Str→Option Value) (fa:Addr) (o:Obj) (pm cd doc:Value) (a:Addr) (vs:List Value) (ns:List Int),
   Ground q loose [] XP w s₀ mg mb s₁.heap→YP w s₁.heap →
   s₁.heap.get? fa=some o→o.data=.func (docDef d.name d.params d.body d.scope pm cd doc)→s₁.heap.CodeRec cd d.name→mg d.name=some (.ref fa) →
   s₁.heap.get? a=some { cls:=.type "list",data:=.seq vs.toArray }→IntsAre vs ns→ns.length≤n→s₁.gens=#[] →
   codeAny (model l.prog w) callerA (.call (.ref fa) ⟨[.ref a],[]⟩) (fun r s'=>r=.ok (.ret (.bool true))∧OldK s₁.heap s'.heap∧s'.os=s₁.os∧AllBare s'.gens) s₁) :
  WalkO q loose XP YP l.row.toRowW d [] (fun f vs=>PySem.call f vs):=by
 intro w s₀ s₁ mg mb G Y fa o pm cd doc dV kV ho hd hcd hD hmg hg args vals as hpre hlay hrd hwl hlo
 obtain rfl:dV=.none:=Dflts.none hD hdf
 obtain rfl:kV=.none:=Dflts.noKw hD
 obtain ⟨a,vs,ns,rfl,rfl,hobj,hints,hlen⟩:=zKK hn hpre hwl
 refine enter_call (codeAny_mono (call w s₀ s₁ mg mb fa o pm cd doc a vs ns G Y ho (fd_plain hd) hcd hmg hobj hints hlen hg) fun r s' hq=>?_)
 obtain ⟨rfl,h2,h3,h4⟩:=hq
 exact ⟨.inl ⟨.bool true,.bool true,[],rfl,fun _=>rfl,.bool true,zKZ l _,fun _=>⟨List.Pairwise.nil,fun _ hm=>(nomatch hm)⟩⟩,h2,h3,h4⟩
end Att
namespace L2
open PySem PySem.Spec PyProof.Rows
theorem zGn:∀ {vs:List Value}{ns:List Int},IntsAre vs ns→Vals (ns.map V.int) vs
 | _,_,.nil=>.nil
 | _,_,.cons n t h=>.cons ⟨t,rfl⟩ (zGn h)
noncomputable def zAY (s:Stmt):Arguments:=match s with
 | .FunctionDef _ a _ _ _ _ _ _ _ _=>a
 | _=>{ posonlyargs:=[],args:=[],vararg:=none,kwonlyargs:=[],kw_defaults:=[],kwarg:=none,defaults:=[] }
noncomputable def zAc (s:Stmt):List Stmt:=match s with
 | .FunctionDef _ _ b _ _ _ _ _ _ _=>b
 | _=>[]
noncomputable def zA1 (s:Stmt):Scope:=match s with
 | .FunctionDef _ _ _ _ _ _ sc _ _ _=>sc
 | _=>{ kind:=.function,names:=[],isGenerator:=false,isCoroutine:=false }
noncomputable abbrev CX0:CXT:=fun _ _ _ _ _ _=>False
noncomputable abbrev E0:XK:=fun _ _ _=>False
theorem pass0 {X:Cx}:zB1 CX0 X E0:=fun _ _ _ _ _ _ _ h=>h.elim
structure Fun (K:W.Frag) (x qual:Str) (st:Stmt) (f:Addr) (fd:FuncData):Prop where
 ex:∃ (oc:Value) (od:Option Addr) (kV doc pm:Value) (an:Option Addr) (cdv ct:Value) (osl:Array (Option Value)),
  fd=W.fnOf x qual (zAY st) (zAc st) (zA1 st) .none kV doc pm an cdv ct∧K.lookup f=some ⟨oc,od,.func fd,osl⟩∧W.codeIn K cdv qual=true
 kp:W.keepIn K (.ref f)=true
section
variable {P:Program}{w:World}{K:W.Frag}{mg:Str→Option Value}{base:Heap}
theorem Fun.ok {x qual:Str}{st:Stmt}{f:Addr}{fd:FuncData}{N ps:List Str}{k:Nat}{sp:Sp} (F:Fun K x qual st f fd) (S:zBw N ps (zA1 st)) (len:∀ vs H Q E,sp vs H Q E→vs.length=ps.length)
  (hbody:∀ (cdv:Value) (A:Around) (outer:List Env) (s:Shared) (H:Hp) (vs:List V) (Q:VK) (E:XK),Room k (A.deeper (envOfC qual (zA1 st) s.heap.objs.size f cdv))→sp vs H Q E →
   ∃ t,PSs (cxOf CX0 P w K mg base N qual (zA1 st) f cdv A outer s H E).nox (zAc st) t∧t { nx:=fun _ H'=>Q .non H',rt:=Q } (start N vs) H):FnOk P w K mg base CX0 (k+1) f fd ps sp:=by
 obtain ⟨oc,od,kV,doc,pm,an,cdv,ct,osl,rfl,lk,hcd⟩:=F.ex
 refine fn_of lk hcd S len fun A outer s H vs Q E hr hsp=>?_
 obtain ⟨t,h,q⟩:=hbody cdv A outer s H vs Q E hr hsp
 exact ⟨t,h.nox,q⟩
theorem Fun.binds {x qual:Str}{st:Stmt}{f:Addr}{fd:FuncData}{ps:List Str} (F:Fun K x qual st f fd)
  (h:∀ (kV doc pm:Value) (an:Option Addr) (cdv ct:Value) (us:List Value),us.length=ps.length→bindArgs (W.fnOf x qual (zAY st) (zAc st) (zA1 st) .none kV doc pm an cdv ct) ⟨us,[]⟩=pure (ps.zip us)):zBN K fd ps []:=by
 obtain ⟨oc,od,kV,doc,pm,an,cdv,ct,osl,rfl,lk,hcd⟩:=F.ex
 exact .all (h kV doc pm an cdv ct)
theorem zLR {x qual:Str}{st:Stmt}{f:Addr}{oc:Value}{od an:Option Addr}{osl:Array (Option Value)}{kV doc pm cdv ct:Value} (l:K.lookup f=some ⟨oc,od,.func (W.fnOf x qual (zAY st) (zAc st) (zA1 st) .none kV doc pm an cdv ct),osl⟩)
  (c:W.codeIn K cdv qual=true) (k:W.keepIn K (.ref f)=true):Fun K x qual st f (W.fnOf x qual (zAY st) (zAc st) (zA1 st) .none kV doc pm an cdv ct):=⟨⟨oc,od,kV,doc,pm,an,cdv,ct,osl,rfl,l,c⟩,k⟩
end
theorem hu_of {A:Around}{k:Nat} (hr:Room k A):A.units+1<cLine:=Nat.lt_of_le_of_lt (Nat.add_le_add_left (by decide:1≤64) _) hr.units
theorem zDP {n:Nat} (h:n≤1000):n<sizeLine:=Nat.lt_of_le_of_lt h (by decide)
def Same (H H':Hp):Prop:=∀ b o,H b=some o→H' b=some o
theorem Same.refl (H:Hp):Same H H:=fun _ _ h=>h
section
variable {κ:Type} [DecidableEq κ]
noncomputable def valV (kvs:List (κ × V)) (k:κ):Option V:=(kvs.find? fun kv=>decide (kv.1=k)).map (·.2)
noncomputable def putK (kvs:List (κ × V)) (k:κ) (v:V):List (κ × V) :=
 if (kvs.any fun kv=>decide (kv.1=k))=true then kvs.map (fun kv=>if kv.1=k then (kv.1,v) else kv) else kvs++[(k,v)]
theorem zDI {p:κ × V}{r:List (κ × V)}{k:κ} (e:p.1=k):valV (p::r) k=some p.2:=by simp [valV,e]
theorem zDJ {p:κ × V}{r:List (κ × V)}{k:κ} (e:¬ p.1=k):valV (p::r) k=valV r k:=by simp [valV,e]
theorem zIJ (k:κ):∀ kvs:List (κ × V),(kvs.any fun kv=>decide (kv.1=k))=(valV kvs k).isSome
 | []=>rfl
 | p::r=>by
  rw [List.any_cons]
  by_cases e:p.1=k
  ·simp only [zDI e,decide_eq_true e,Bool.true_or,Option.isSome_some]
  ·rw [zDJ e,decide_eq_false e,Bool.false_or]; exact zIJ k r
theorem zCy (kvs:List (κ × V)) (k:κ) (v:V):(putK kvs k v).length≤kvs.length+1:=by
 unfold putK
 split
 ·rw [List.length_map]; lia
 ·simp_all
theorem RelO.isSome_eq {o:Option V}{u:Option Value} (r:RelO o u):o.isSome=u.isSome:=by
 cases o with
 | none=>cases u with
  | none=>rfl
  | some _=>exact (r).elim
 | some _=>cases u with
  | none=>exact (r).elim
  | some _=>rfl
theorem KV.val {kvs:List (κ × V)}{vs:List (κ × Value)} (r:KV kvs vs) (k:κ):RelO (valV kvs k) (valueAt vs k):=by
 induction r with
 | nil=>exact True.intro
 | @cons p q ps qs h t ih =>
  obtain ⟨h1,h2⟩:=h
  by_cases e:p.1=k
  ·have e':=h1.symm.trans e
   have b:valueAt (q::qs) k=some q.2:=by simp [valueAt,e']
   rw [zDI e,b]; exact h2
  ·have e':¬ q.1=k:=fun z=>e (h1.trans z)
   have b:valueAt (q::qs) k=valueAt qs k:=by simp [valueAt,e']
   rw [zDJ e,b]; exact ih
theorem KV.any {kvs:List (κ × V)}{vs:List (κ × Value)} (r:KV kvs vs) (k:κ):(kvs.any fun kv=>decide (kv.1=k))=vs.any fun kv=>decide (kv.1=k):=by
 induction r with
 | nil=>rfl
 | cons h t ih=>rw [List.any_cons,List.any_cons,ih,h.1]
theorem KV.repl {kvs:List (κ × V)}{vs:List (κ × Value)} (r:KV kvs vs) (k:κ) {y:V}{u:Value} (ry:RelV y u) :
  KV (kvs.map fun kv=>if kv.1=k then (kv.1,y) else kv) (vs.map fun kv=>if kv.1=k then (kv.1,u) else kv):=by
 induction r with
 | nil=>exact .nil
 | @cons p q ps qs h t ih =>
  rw [List.map_cons,List.map_cons]
  refine .cons ?_ ih
  obtain ⟨h1,h2⟩:=h
  by_cases e:p.1=k
  ·rw [if_pos e,if_pos (h1.symm.trans e)]; exact ⟨h1,ry⟩
  ·rw [if_neg e,if_neg (fun z=>e (h1.trans z))]; exact ⟨h1,h2⟩
theorem KV.put {kvs:List (κ × V)}{vs:List (κ × Value)} (r:KV kvs vs) (k:κ) {y:V}{u:Value} (ry:RelV y u):KV (putK kvs k y) (stored vs k u):=by
 unfold putK stored
 rw [r.any k]
 by_cases e:(vs.any fun kv=>decide (kv.1=k))=true
 ·rw [if_pos e,if_pos e]; exact r.repl k ry
 ·rw [if_neg e,if_neg e]; exact Paired.snoc r ⟨rfl,ry⟩
theorem KV.length {kvs:List (κ × V)}{vs:List (κ × Value)} (r:KV kvs vs):kvs.length=vs.length:=Paired.length r
end
theorem zGU {P:Program}{w:World}{k:Key}{u:Value} (r:RelV (kV k) u):(zA8 P w).is k u=true:=by
 cases k with
 | inl i=>obtain ⟨t,e⟩:=(r); subst e; exact zHZ P w i t
 | inr x=>obtain ⟨t,e⟩:=(r); subst e; exact zCw P w x t
theorem zGV {P:Program}{w:World}:∀ {ks:List Key}{us:List Value},Vals (ks.map kV) us→ItemsAre (zA8 P w) ks us
 | [],_,r=>by cases r; exact .nil
 | k::ks,_,r=>by
  cases r with
  | cons h t=>exact .cons (zGU h) (zGV t)
noncomputable abbrev KT (H:Hp):List (List Key × V)→List (List Key × Addr × Value)→Prop:=Paired fun p q=>p.1=q.1∧H q.2.1=some (.tup (p.1.map kV))∧RelV p.2 q.2.2
theorem KT.val {H:Hp}{kvs:List (List Key × V)}{xs:List (List Key × Addr × Value)} (r:KT H kvs xs) (k:List Key):RelO (valV kvs k) ((atKey xs k).map (·.2)):=by
 induction r with
 | nil=>exact True.intro
 | @cons p q ps qs h t ih =>
  obtain ⟨h1,_,h2⟩:=h
  by_cases e:p.1=k
  ·have e':=h1.symm.trans e
   have b:atKey (q::qs) k=some q.2:=by simp [atKey,e']
   rw [zDI e,b]; exact h2
  ·have e':¬ q.1=k:=fun z=>e (h1.trans z)
   have b:atKey (q::qs) k=atKey qs k:=by simp [atKey,e']
   rw [zDJ e,b]; exact ih
theorem KT.repl {H:Hp}{kvs:List (List Key × V)}{xs:List (List Key × Addr × Value)} (r:KT H kvs xs) (k:List Key) {y:V}{u:Value} (ry:RelV y u) :
  KT H (kvs.map fun kv=>if kv.1=k then (kv.1,y) else kv) (xs.map (putAt k u)):=by
 induction r with
 | nil=>exact .nil
 | @cons p q ps qs h t ih =>
  rw [List.map_cons,List.map_cons]
  refine .cons ?_ ih
  obtain ⟨h1,h2,h3⟩:=h
  unfold putAt
  by_cases e:p.1=k
  ·rw [if_pos e,if_pos (h1.symm.trans e)]; exact ⟨h1,h2,ry⟩
  ·rw [if_neg e,if_neg (fun z=>e (h1.trans z))]; exact ⟨h1,h2,h3⟩
theorem KT.put {H:Hp}{kvs:List (List Key × V)}{xs:List (List Key × Addr × Value)} (r:KT H kvs xs) (k:List Key) {b:Addr}{y:V}{u:Value} (hb:H b=some (.tup (k.map kV))) (ry:RelV y u) :
  KT H (putK kvs k y) (storedH xs k b u):=by
 have e:(kvs.any fun kv=>decide (kv.1=k))=(atKey xs k).isSome:=by
  rw [zIJ,(r.val k).isSome_eq,Option.isSome_map]
 unfold putK storedH
 rw [e]
 by_cases q:(atKey xs k).isSome=true
 ·rw [if_pos q,if_pos q]; exact r.repl k ry
 ·rw [if_neg q,if_neg q]; exact Paired.snoc r ⟨rfl,hb,ry⟩
theorem KT.keeps {H H':Hp}{kvs:List (List Key × V)}{xs:List (List Key × Addr × Value)} (r:KT H kvs xs) (ht:∀ b ys,H b=some (.tup ys)→H' b=some (.tup ys)):KT H' kvs xs :=
 Paired.mapP r fun _ _ z=>⟨z.1,ht _ _ z.2.1,z.2.2⟩
section
variable {P:Program}{w:World}{H:Hp}{h:Heap}{a:Addr}
theorem rd_of {u:HO} (ok:HOk P w H h) (e:Rd H a u):zAV P w H h a u:=e.ok ok
theorem zH7 {kvs:List (Key × V)} (ok:HOk P w H h) (e:Rd H a (.dK kvs)):kvs.length≤sizeLine∧(a == sysModules)=false∧∃ vs,KV kvs vs∧h.DictOf (zA8 P w) a vs :=
 show zAV P w H h a (.dK kvs) from rd_of ok e
theorem zOM {kvs:List (Key × V)} (ok:HOk P w H h) (e:H a=some (.dK kvs)):kvs.length≤sizeLine∧(a == sysModules)=false∧∃ vs,KV kvs vs∧h.DictOf (zA8 P w) a vs:=zH7 ok (.inl e)
theorem zGS {ks:List Key} (ok:HOk P w H h) (e:H a=some (.tup (ks.map kV))):(tupleKind (zA8 P w)).is h ks a:=by
 obtain ⟨_,its,r,o,h1,h2,n,h3⟩:=(ok a _ e)
 exact ⟨o,its.toArray,n,h1,h2,h3,by simpa using zGV r⟩
theorem zM8 {kvs:List (List Key × V)} (ok:HOk P w H h) (e:Rd H a (.dT kvs)):kvs.length≤sizeLine∧(a == sysModules)=false ∧
  ∃ xs,KT H kvs xs∧h.DictOfH (tupleKind (zA8 P w)) a xs:=by
 obtain ⟨z,y,xs,r,o,es,ep,h1,h2,h3,h4,h5⟩:=(rd_of ok e)
 refine ⟨z,y,xs,r,o,es,ep,h1,h2,h3,h4,fun x hx=>?_,h5⟩
 have all:∀ {l:List (List Key × V)}{m:List (List Key × Addr × Value)},KT H l m→∀ x∈m,(tupleKind (zA8 P w)).is h x.1 x.2.1:=by
  intro l m q
  induction q with
  | nil=>intro x hx; exact nomatch hx
  | @cons p q ps qs hq t ih =>
   intro x hx
   rcases List.mem_cons.mp hx with e | hx
   ·subst e
    exact zGS ok (by rw [← hq.1]; exact hq.2.1)
   ·exact ih x hx
 exact all r x hx
theorem dt_of {kvs:List (List Key × V)} (ok:HOk P w H h) (e:H a=some (.dT kvs)):kvs.length≤sizeLine∧(a == sysModules)=false ∧
  ∃ xs,KT H kvs xs∧h.DictOfH (tupleKind (zA8 P w)) a xs:=zM8 ok (.inl e)
end
def DGet (H:Hp) (a:Addr) (y:V) (r:Option V):Prop :=
 (∃ kvs k,Rd H a (.dK kvs)∧y=kV k∧r=valV kvs k)∨∃ kvs k b,Rd H a (.dT kvs)∧y=.ref b∧H b=some (.tup (k.map kV))∧r=valV kvs k
def DPut (H:Hp) (a:Addr) (y v:V) (H':Hp):Prop :=
 (∃ kvs k,H a=some (.dK kvs)∧y=kV k∧kvs.length<sizeLine∧H'=upd H a (.dK (putK kvs k v))) ∨
 ∃ kvs k b,H a=some (.dT kvs)∧y=.ref b∧H b=some (.tup (k.map kV))∧kvs.length<sizeLine∧H'=upd H a (.dT (putK kvs k v))
theorem DGet.k {H:Hp}{a:Addr}{kvs:List (Key × V)}{k:Key} (e:H a=some (.dK kvs)):DGet H a (kV k) (valV kvs k):=.inl ⟨kvs,k,.inl e,rfl,rfl⟩
theorem DPut.k {H:Hp}{a:Addr}{kvs:List (Key × V)}{k:Key}{v:V} (e:H a=some (.dK kvs)) (hl:kvs.length<sizeLine):DPut H a (kV k) v (upd H a (.dK (putK kvs k v))):=.inl ⟨kvs,k,e,rfl,hl,rfl⟩
section
variable {X:Cx}{pins:List (Addr × Obj)}{σ:St}{H:Hp}{s:Shared}{a:Addr}{y v:V}{u r:Value}{o:Option V}{A:Around}{E:Value→Shared→Prop}
theorem Inv.big (I:Inv X pins σ H s):sysModules<s.heap.objs.size:=by
 have h:=(I.mod.glob.keeps I.bk).lt
 exact Nat.lt_trans (by decide) h
theorem zMd {Q:Value→Shared→Prop} (hu:A.units+1<cLine) (I:Inv X pins σ H s) (g:DGet H a y (some v)) (ry:RelV y u) (h:∀ w' s',Inv X pins σ H s'→RelV v w'→Q w' s') :
  wpAny (model X.prog X.w) A (getItem (.ref a) u) Q E s:=by
 rcases g with ⟨kvs,k,e,ey,l⟩ | ⟨kvs,k,b,e,ey,eb,l⟩
 ·subst ey
  obtain ⟨z,hd,vs,rel,dd⟩:=zH7 I.hok e
  obtain ⟨w',hw,rw'⟩:=RelO.some_of (by rw [l]; exact rel.val k)
  exact wpAny_getItem_of (zGU ry) dd.mapOf hw (h w' _ (I.tok _) rw')
 ·subst ey
  cases (ry)
  obtain ⟨z,hd,xs,rel,dd⟩:=zM8 I.hok e
  obtain ⟨w',hw,rw'⟩:=RelO.some_of (by rw [l]; exact rel.val k)
  obtain ⟨p,hp,hp2⟩:=Option.map_eq_some_iff.mp hw
  refine wpAny_getItem_heap (tupleKind_room_in1 hu) (zGS I.hok eb) dd hp ?_
  rw [hp2]
  exact h w' _ (I.tok _) rw'
theorem d_in {Q:Value→Shared→Prop} (hu:A.units+1<cLine) (I:Inv X pins σ H s) (g:DGet H a y o) (ry:RelV y u) (h:∀ s',Inv X pins σ H s'→Q (.bool o.isSome) s') :
  wpAny (model X.prog X.w) A (compareOp .In u (.ref a)) Q E s:=by
 rcases g with ⟨kvs,k,e,ey,l⟩ | ⟨kvs,k,b,e,ey,eb,l⟩
 ·subst ey
  obtain ⟨z,hd,vs,rel,dd⟩:=zH7 I.hok e
  refine wpAny_in_of (zGU ry) hd dd.mapOf ?_
  rw [← (rel.val k).isSome_eq,← l]
  exact h _ (I.tok _)
 ·subst ey
  cases (ry)
  obtain ⟨z,hd,xs,rel,dd⟩:=zM8 I.hok e
  refine wpAny_in_heap (tupleKind_room_in1 hu) (zGS I.hok eb) hd dd ?_
  have q:=(rel.val k).isSome_eq
  rw [Option.isSome_map] at q
  rw [← q,← l]
  exact h _ (I.tok _)
theorem d_notIn {Q:Value→Shared→Prop} (hu:A.units+1<cLine) (I:Inv X pins σ H s) (g:DGet H a y o) (ry:RelV y u) (h:∀ s',Inv X pins σ H s'→Q (.bool (!o.isSome)) s') :
  wpAny (model X.prog X.w) A (compareOp .NotIn u (.ref a)) Q E s:=by
 rcases g with ⟨kvs,k,e,ey,l⟩ | ⟨kvs,k,b,e,ey,eb,l⟩
 ·subst ey
  obtain ⟨z,hd,vs,rel,dd⟩:=zH7 I.hok e
  refine wpAny_notIn_of (zGU ry) hd dd.mapOf ?_
  rw [← (rel.val k).isSome_eq,← l]
  exact h _ (I.tok _)
 ·subst ey
  cases (ry)
  obtain ⟨z,hd,xs,rel,dd⟩:=zM8 I.hok e
  refine wpAny_notIn_heap (tupleKind_room_in1 hu) (zGS I.hok eb) hd dd ?_
  have q:=(rel.val k).isSome_eq
  rw [Option.isSome_map] at q
  rw [← q,← l]
  exact h _ (I.tok _)
theorem zG2 {h':Heap}{t':Nat}{ob:HO} (I:Inv X pins σ H s) (mu:Mut (H a)) (hs:Heap.SameBut a s.heap h') (he:∃ q,h'.get? a=some q) (new:zAV X.prog X.w (upd H a ob) h' a ob) :
  Inv X pins σ (upd H a ob) { s with heap:=h',toks:=t' } :=
 I.write mu (.inl rfl) (fun b q hb z=>(hs.2 b hb).trans z) he new
theorem zH8 {P:Program}{w:World}{H':Hp}{h':Heap}{kvs:List (Key × V)}{vs:List (Key × Value)} (z:kvs.length≤sizeLine) (hd:(a == sysModules)=false) (rel:KV kvs vs) (dd:h'.DictOf (zA8 P w) a vs) :
  zAV P w H' h' a (.dK kvs):=⟨z,hd,vs,rel,dd⟩
theorem zMc {H':Hp}{Q:Unit→Shared→Prop} (hu:A.units+1<cLine) (I:Inv X pins σ H s) (g:DPut H a y v H') (ry:RelV y u) (rv:RelV v r) (h:∀ s',Inv X pins σ H' s'→Q () s') :
  wpAny (model X.prog X.w) A (setItem (.ref a) u r) Q E s:=by
 rcases g with ⟨kvs,k,e,ey,l,eH⟩ | ⟨kvs,k,b,e,ey,eb,l,eH⟩
 ·subst ey eH
  obtain ⟨z,hd,vs,rel,dd⟩:=zOM I.hok e
  have hz:vs.length≤sizeLine:=by rw [← rel.length]; exact z
  have hl:(putK kvs k v).length≤sizeLine:=by have:=zCy kvs k v; lia
  refine wpAny_setItem_pairs (zGU ry) dd fun h' dd' hs=>h _ ?_
  have he:∃ q,h'.get? a=some q:=let ⟨q,_,_,hq,_⟩:=dd'; ⟨q,hq⟩
  exact zG2 I (by rw [e]; exact True.intro) hs he (zH8 hl hd (rel.put k rv) dd')
 ·subst ey eH
  cases (ry)
  obtain ⟨z,hd,xs,rel,dd⟩:=dt_of I.hok e
  have hz:xs.length≤sizeLine:=by rw [← Paired.length rel]; exact z
  have hl:(putK kvs k v).length≤sizeLine:=by have:=zCy kvs k v; lia
  refine wpAny_setItem_heap (tupleKind_room_in1 hu) (zGS I.hok eb) dd fun h' dd' hs=>h _ ?_
  obtain ⟨q,es,ep,hq,h2,h3,h4,_,h5⟩:=dd'
  refine zG2 I (by rw [e]; exact True.intro) hs ⟨q,hq⟩ ⟨hl,hd,_,(rel.put k eb rv).keeps fun c ys ec=>?_,q,es,ep,hq,h2,h3,h4,h5⟩
  rw [zA5 (ne_of ec e (fun z=>nomatch z))]
  exact ec
end
section
variable {X:Cx}{pins:List (Addr × Obj)}{σ:St}{H:Hp}{s:Shared}{a:Addr}{kvs:List (Key × V)}{k:Key}{u:Value}{A:Around}{E:Value→Shared→Prop}
theorem d_len {Q:Value→Shared→Prop} (I:Inv X pins σ H s) (e:Rd H a (.dK kvs)) (h:∀ t s',Inv X pins σ H s'→Q (.int kvs.length t) s'):wpAny (model X.prog X.w) A (call (.builtin "len") [.ref a]) Q E s:=by
 obtain ⟨z,hd,vs,rel,dd⟩:=zH7 I.hok e
 refine call_len_dict hd dd (by rw [← rel.length]; rw [sizeLine_eq] at z; lia) ?_
 rw [← rel.length]
 exact h _ _ (I.tok _)
end
theorem zIe {X:Cx}{pins:List (Addr × Obj)}{σ:St}{H:Hp}{s:Shared}{a:Addr}{y:V}{o:Option V} (I:Inv X pins σ H s) (g:DGet H a y o):s.TypeIs (.ref a) "dict":=by
 rcases g with ⟨kvs,k,e,_,_⟩ | ⟨kvs,k,b,e,_,_,_⟩
 ·obtain ⟨_,_,vs,_,dd⟩:=zH7 I.hok e
  exact dd.typeIs
 ·obtain ⟨_,_,xs,_,dd⟩:=zM8 I.hok e
  exact dd.typeIs
theorem zG1 {P:Program}{w:World}{H:Hp} (h:Heap) (hb:sysModules<h.objs.size):zAV P w H (h.push { cls:=.type "dict",data:=.dict #[] }) h.objs.size (.dK []) :=
 ⟨Nat.zero_le _,beq_eq_false_iff_ne.mpr (Ne.symm (Nat.ne_of_lt hb)),[],.nil,Heap.DictOf.new h⟩
noncomputable def tDNewK:TE:=fun _ H Q=>∀ p,H p=none→Q (.ref p) (upd H p (.dK []))
section
variable {X:Cx}{pos:Pos}
theorem zIV:PE X (.Dict [] [] pos) tDNewK:=fun pins s σ H Q I h =>
 wpAny_Dict_empty ⟨.ref s.heap.objs.size,_,I.laid (t':=s.toks) (fun _ _ q=>Heap.get?_push_of_some _ q) (Nat.le_refl _) (zG1 s.heap I.big),rfl,h _ (I.hok.fresh (Nat.le_refl _))⟩
end
noncomputable def zKv:List (TE × TE)→St→Hp→(List (V × V)→Hp→Prop)→Prop
 | [],_,H,Q=>Q [] H
 | (tk,tv)::r,σ,H,Q=>tk σ H fun x H1=>tv σ H1 fun y H2=>zKv r σ H2 fun ps H3=>Q ((x,y)::ps) H3
noncomputable abbrev VV:List (V × V)→List (Value × Value)→Prop:=Paired fun p q=>RelV p.1 q.1∧RelV p.2 q.2
def PPs (X:Cx) (pos:Pos) (keys:List (Option Expr)) (values:List Expr) (trs:List (TE × TE)):Prop :=
 ∀ (pins:List (Addr × Obj)) (s:Shared) (σ:St) (H:Hp) (Q:List (V × V)→Hp→Prop),Inv X pins σ H s→zKv trs σ H Q →
  wpAny (model X.prog X.w) X.A (evalPairs (pairTrees keys values X.env pos)) (fun vs s'=>∃ ps H',Inv X pins σ H' s'∧VV ps vs∧Q ps H') X.xe s
theorem zQu {X:Cx}{pos:Pos}:PPs X pos [] [] []:=fun pins s σ H Q I h=>pairTrees_nil_walk ⟨[],H,I,.nil,h⟩
theorem zNE {X:Cx}{pos:Pos}{k v:Expr}{ks:List (Option Expr)}{vs:List Expr}{tk tv:TE}{trs:List (TE × TE)} (hk:PE X k tk) (hv:PE X v tv) (hr:PPs X pos ks vs trs) :
  PPs X pos (some k::ks) (v::vs) ((tk,tv)::trs):=fun pins s σ H Q I h =>
 pairTrees_cons_walk (thn (hk pins s σ H _ I h) fun u s1 ⟨x,H1,I1,rx,q1⟩=>thn (hv pins s1 σ H1 _ I1 q1) fun w2 s2 ⟨y,H2,I2,ry,q2⟩ =>
  thn (hr pins s2 σ H2 _ I2 q2) fun ws s3 ⟨ps,H3,I3,rel,q3⟩=>⟨(x,y)::ps,H3,I3,.cons ⟨rx,ry⟩ rel,q3⟩)
noncomputable def zBk (kvs more:List (Key × V)):List (Key × V):=more.foldl (fun acc kv=>putK acc kv.1 kv.2) kvs
theorem KV.merge:∀ {more:List (Key × V)}{rs:List (Key × Value)}{kvs:List (Key × V)}{vs:List (Key × Value)},KV more rs→KV kvs vs→KV (zBk kvs more) (merged vs rs):=by
 intro more rs kvs vs r
 induction r generalizing kvs vs with
 | nil=>intro q; exact q
 | @cons p q ps qs h t ih =>
  intro r0
  have e:KV (putK kvs p.1 p.2) (stored vs q.1 q.2):=by
   have:=r0.put p.1 h.2
   rw [← h.1]; exact this
  exact ih e
theorem zB2:∀ (more kvs:List (Key × V)),(zBk kvs more).length≤kvs.length+more.length
 | [],kvs=>by show kvs.length≤kvs.length+0; lia
 | p::r,kvs=>by
  have h1:=zB2 r (putK kvs p.1 p.2)
  have h2:=zCy kvs p.1 p.2
  show (zBk (putK kvs p.1 p.2) r).length≤_
  rw [List.length_cons]; lia
theorem zFA {P:Program}{w:World}:∀ {kvs:List (Key × V)}{ws:List (Value × Value)},VV (kvs.map fun kv=>(kV kv.1,kv.2)) ws→∃ rs,Carries (zA8 P w) ws rs∧KV kvs rs
 | [],_,r=>by cases r; exact ⟨[],True.intro,.nil⟩
 | p::kvs,_,r=>by
  cases r with
  | @cons a b as bs h t =>
   obtain ⟨rs,c,q⟩:=zFA t
   obtain ⟨b1,b2⟩:=b
   exact ⟨(p.1,b2)::rs,⟨zGU h.1,rfl,c⟩,.cons ⟨rfl,h.2⟩ q⟩
noncomputable def tDisp (trs:List (TE × TE)):TE:=fun σ H Q=>∀ p,H p=none→zKv trs σ (upd H p (.dK [])) fun ps H2=>H2 p=some (.dK [])∧∃ kvs:List (Key × V),ps=kvs.map (fun kv=>(kV kv.1,kv.2))∧kvs.length≤15∧Q (.ref p) (upd H2 p (.dK (zBk [] kvs)))
theorem zQA {X:Cx}{pos:Pos}{keys:List (Option Expr)}{values:List Expr}{trs:List (TE × TE)} (h:PPs X pos keys values trs) (hall:keys.all (·.isSome)=true) (hl:keys.length=values.length) (h0:keys≠[])
  (h15:keys.length≤15):PE X (.Dict keys values pos) (tDisp trs):=by
 intro pins s σ H Q I q
 have hn:=I.hok.fresh (Nat.le_refl s.heap.objs.size)
 have I1:=I.laid (h':=s.heap.push { cls:=.type "dict",data:=.dict #[] }) (t':=s.toks) (fun _ _ q=>Heap.get?_push_of_some _ q) (Nat.le_refl _) (zG1 s.heap I.big)
 refine wpAny_Dict_walk (knd:=zA8 X.prog X.w) hall hl h0 h15 (thn (h pins _ σ _ _ I1 (q _ hn)) fun ws s2 ⟨ps,H2,I2,rel,e,kvs,ep,lk,q2⟩=>?_)
 subst ep
 obtain ⟨rs,c,rk⟩:=zFA rel
 obtain ⟨z,hd,vs0,r0,dd⟩:=zOM I2.hok e
 cases r0
 refine ⟨rs,c,dd,fun h' dd' hs=>⟨.ref s.heap.objs.size,_,?_,rfl,q2⟩⟩
 have hz:(zBk [] kvs).length≤sizeLine:=by
  have h1:=zB2 kvs []
  rw [List.length_nil] at h1
  rw [sizeLine_eq]; lia
 have he:∃ q,h'.get? s.heap.objs.size=some q:=let ⟨q,_,_,hq,_⟩:=dd'; ⟨q,hq⟩
 exact zG2 I2 (by rw [e]; exact True.intro) hs he (zH8 hz hd (rk.merge .nil) dd')
section
variable {X:Cx}{pins:List (Addr × Obj)}{σ:St}{H:Hp}{s:Shared}{a:Addr}{kvs:List (Key × V)}{A:Around}{E:Value→Shared→Prop}
theorem zON {Q:Value→Shared→Prop} (I:Inv X pins σ H s) (e:Rd H a (.dK kvs)) (h:∀ p s',H p=none→Inv X pins σ (upd H p (.dK kvs)) s'→Q (.ref p) s'):wpAny (model X.prog X.w) A (call (.type "dict") [.ref a]) Q E s:=by
 obtain ⟨z,hd,vs,rel,dd⟩:=zH7 I.hok e
 refine kt_call_dict hd dd (by rw [← rel.length]; exact z) fun h' dd' hs=>?_
 refine h _ _ (I.hok.fresh (Nat.le_refl _)) (I.laid (a:=s.heap.objs.size) (o:=.dK kvs) (t':=s.toks) (fun b q hq=>?_) (Nat.le_refl _) (zH8 z (beq_eq_false_iff_ne.mpr (Ne.symm (Nat.ne_of_lt I.big))) rel dd'))
 exact (hs.2 b (Nat.ne_of_lt (Heap.lt_size hq))).trans (Heap.get?_push_of_some _ hq)
end
def zGj (st st2:St):Prop:=st.length=st2.length∧∀ (i:Nat) v,st[i]?=some (some v)→st2[i]?=some (some v)
noncomputable def zAj (X:Cx) (scope:Scope) (N:List Str) (cl:List (Str × Addr)) (s:Shared) (H:Hp) (C:Addr) (ex:List Addr):Cx where
 prog:=X.prog
 w:=X.w
 K:=X.K
 mg:=X.mg
 base:=X.base
 A:=X.A
 N:=N
 s₀:=s
 H₀:=H
 env:=compEnvC scope cl C X.env
 outer:=X.stack
 stack:=X.stack
 ex:=ex
 fn:=fun x=>decide ((x,NameKind.cell)∈scope.names)
 calm:=X.calm
 pn:=[]
 xe:=fun _ _=>False
noncomputable def clOf (env:Env):List (Str × NameKind)→List (Str × Addr)→List (Str × Addr)
 | [],acc=>acc
 | (n,k)::r,acc=>if k == .free then (match env.cells.lookup n with | some c=>clOf env r ((n,c)::acc) | none=>clOf env r acc) else clOf env r acc
theorem zDL {env:Env}:∀ (ns:List (Str × NameKind)) (acc:List (Str × Addr)),(∀ x c,acc.lookup x=some c→env.cells.lookup x=some c)→∀ x c,(clOf env ns acc).lookup x=some c→env.cells.lookup x=some c
 | [],_,h=>h
 | (n,k)::r,acc,h=>by
  unfold clOf
  split
  ·split
   ·rename_i c hc
    refine zDL r _ fun x d e=>?_
    rw [List.lookup_cons] at e
    cases hx:x == n with
    | true =>
     rw [hx] at e
     have:=by simpa using hx
     subst this
     cases e
     exact hc
    | false =>
     rw [hx] at e
     exact h x d e
   ·exact zDL r _ h
  ·exact zDL r _ h
theorem zCl {env:Env}:∀ (ns:List (Str × NameKind)) (acc:List (Str × Addr)) (x:Str),((∃ c,acc.lookup x=some c)∨((x,NameKind.free)∈ns∧∃ c,env.cells.lookup x=some c))→∃ c,(clOf env ns acc).lookup x=some c
 | [],acc,x,h=>by
  rcases h with h | ⟨h,_⟩
  ·exact h
  ·cases h
 | (n,k)::r,acc,x,h=>by
  unfold clOf
  split
  ·rename_i hk
   split
   ·rename_i c hc
    refine zCl r _ x ?_
    by_cases hx:x=n
    ·simp_all
    ·have hb:(x == n)=false:=by simpa using hx
     rcases h with ⟨d,h⟩ | ⟨h,d⟩
     ·exact .inl ⟨d,by rw [List.lookup_cons,hb]; exact h⟩
     ·simp_all
   ·rename_i hc
    refine zCl r _ x ?_
    rcases h with h | ⟨h,d,hd⟩
    ·exact .inl h
    ·rcases List.mem_cons.mp h with h | h
     ·cases h
      rw [hc] at hd; cases hd
     ·exact .inr ⟨h,d,hd⟩
  ·rename_i hk
   refine zCl r _ x ?_
   rcases h with h | ⟨h,d⟩
   ·exact .inl h
   ·rcases List.mem_cons.mp h with h | h
    ·simp_all
    ·exact .inr ⟨h,d⟩
theorem zMv {env:Env}{x:Str}{c:Addr} (h:env.cells.lookup x=some c):cellOf env x=pure c:=by
 unfold cellOf
 rw [h]
theorem zDe {env:Env}:∀ (ns:List (Str × NameKind)) (acc:List (Str × Addr)),(∀ x,(x,NameKind.free)∈ns→∃ c,env.cells.lookup x=some c) →
  (forIn ns acc fun (x:Str × NameKind) (r:List (Str × Addr))=>(match x with
   | (name,kind)=>if kind == NameKind.free then (do let c ← cellOf env name; pure (ForInStep.yield ((name,c)::r))) else pure (ForInStep.yield r):Sem (ForInStep (List (Str × Addr)))))=pure (clOf env ns acc)
 | [],acc,_=>rfl
 | (n,k)::r,acc,h=>by
  rw [List.forIn_cons]
  unfold clOf
  have hr:=fun x hx=>h x (List.mem_cons_of_mem _ hx)
  by_cases hk:k=.free
  ·subst hk
   obtain ⟨c,hc⟩:=h n (List.mem_cons_self ..)
   dsimp only
   rw [hc,zMv hc]
   exact zDe r _ hr
  ·have hb:(k == NameKind.free)=false:=by simpa using hk
   simp only [hb]
   exact zDe r _ hr
theorem zAO {scope:Scope}{env:Env} (h:∀ x,(x,NameKind.free)∈scope.names→∃ c,env.cells.lookup x=some c):closureFor scope env=pure (clOf env scope.names []):=by
 unfold closureFor
 have q:=zDe scope.names [] h
 simp only [bind_pure]
 congr 1
theorem zAT {ns:List (Str × NameKind)}{x:Str}{k:NameKind} (h:ns.lookup x=some k):(x,k)∈ns:=by
 induction ns with
 | nil=>cases h
 | cons a r ih =>
  obtain ⟨n,k'⟩:=a
  rw [List.lookup_cons] at h
  cases hx:x == n with
  | true =>
   rw [hx] at h
   have e:=by simpa using hx
   subst e
   cases h
   exact List.mem_cons_self ..
  | false =>
   rw [hx] at h
   exact List.mem_cons_of_mem _ (ih h)
theorem zDW {scope:Scope}{env:Env}{x:Str}{k:NameKind} (h:(relabel scope env).names.lookup x=some k) (hc:k=.cell∨k=.free):(x,NameKind.free)∈scope.names∨(x,NameKind.cell)∈scope.names:=by
 have m:=zAT h
 obtain ⟨⟨n,k'⟩,hm,e⟩:=List.mem_map.mp m
 dsimp only at e
 split at e
 ·simp_all
 ·cases e
  rcases hc with rfl | rfl
  ·exact .inr hm
  ·exact .inl hm
theorem zAU:∀ (ns:List (Str × NameKind)) (h:Heap) (acc:List (Str × Addr)) {x:Str}{c:Addr},(cellsFrom h.objs.size ns acc).lookup x=some c →
  ((x,NameKind.cell)∈ns∧h.objs.size≤c∧(pushCells h ns).IsCell c none)∨((x,NameKind.cell)∉ns∧acc.lookup x=some c)
 | [],h,acc,x,c,e=>.inr ⟨by simp,e⟩
 | (n,k)::r,h,acc,x,c,e=>by
  unfold cellsFrom at e
  unfold pushCells
  by_cases hk:(k == NameKind.cell)=true
  ·rw [if_pos hk] at e ⊢
   have hk':=by simpa using hk
   rw [← Heap.size_push h { cls:=.type "cell",data:=.cell none }] at e
   rcases zAU r _ _ e with ⟨q1,q2,q3⟩ | ⟨q1,q2⟩
   ·exact .inl ⟨List.mem_cons_of_mem _ q1,by rw [Heap.size_push] at q2; lia,q3⟩
   ·rw [List.lookup_cons] at q2
    cases hx:x == n with
    | true =>
     rw [hx] at q2
     cases q2
     have:=by simpa using hx
     subst this
     subst hk'
     exact .inl ⟨List.mem_cons_self ..,Nat.le_refl _,_,pushCells_keeps _ _ _ _ (Heap.get?_push_size _ rfl),rfl⟩
    | false =>
     rw [hx] at q2
     refine .inr ⟨fun z=>?_,q2⟩
     rcases List.mem_cons.mp z with z | z
     ·cases z; simp at hx
     ·exact q1 z
  ·rw [if_neg hk] at e ⊢
   rcases zAU r h acc e with ⟨q1,q2,q3⟩ | ⟨q1,q2⟩
   ·simp_all
   ·refine .inr ⟨fun z=>?_,q2⟩
    rcases List.mem_cons.mp z with z | z
    ·cases z; exact hk rfl
    ·exact q1 z
theorem zEt:∀ (ns:List (Str × NameKind)) (n:Nat) (acc:List (Str × Addr)),(∀ x c,acc.lookup x=some c→c<n)→(∀ x y c,acc.lookup x=some c→acc.lookup y=some c→x=y) →
  ∀ x y c,(cellsFrom n ns acc).lookup x=some c→(cellsFrom n ns acc).lookup y=some c→x=y
 | [],n,acc,hb,hi=>hi
 | (m,k)::r,n,acc,hb,hi=>by
  unfold cellsFrom
  split
  ·refine zEt r (n+1) _ (fun x c e=>?_) fun x y c e1 e2=>?_
   ·rw [List.lookup_cons] at e
    cases hx:x == m with
    | true=>rw [hx] at e; cases e; exact Nat.lt_succ_self _
    | false=>rw [hx] at e; exact Nat.lt_succ_of_lt (hb x c e)
   ·rw [List.lookup_cons] at e1 e2
    cases hx:x == m with
    | true =>
     rw [hx] at e1
     cases e1
     cases hy:y == m with
     | true=>rw [show x=m by simpa using hx,show y=m by simpa using hy]
     | false=>rw [hy] at e2; exact absurd (hb y _ e2) (Nat.lt_irrefl _)
    | false =>
     rw [hx] at e1
     cases hy:y == m with
     | true=>rw [hy] at e2; cases e2; exact absurd (hb x _ e1) (Nat.lt_irrefl _)
     | false=>rw [hy] at e2; exact hi x y c e1 e2
  ·exact zEt r n acc hb hi
theorem zCm:∀ (ns:List (Str × NameKind)) (n:Nat) (acc:List (Str × Addr)) {x:Str},((x,NameKind.cell)∈ns∨∃ c,acc.lookup x=some c)→∃ c,(cellsFrom n ns acc).lookup x=some c
 | [],n,acc,x,h=>by
  rcases h with h | h
  ·cases h
  ·exact h
 | (m,k)::r,n,acc,x,h=>by
  unfold cellsFrom
  split
  ·refine zCm r _ _ ?_
   by_cases hx:x=m
   ·simp_all
   ·have hb:(x == m)=false:=by simpa using hx
    rcases h with h | ⟨c,h⟩
    ·simp_all
    ·exact .inr ⟨c,by rw [List.lookup_cons,hb]; exact h⟩
  ·rename_i hk
   refine zCm r _ _ ?_
   rcases h with h | h
   ·rcases List.mem_cons.mp h with h | h
    ·cases h; exact absurd rfl hk
    ·exact .inl h
   ·exact .inr h
theorem zEI {M:Model}{A:Around}{E:Value→Shared→Prop}{s:Shared}{scope:Scope}{globals:Addr}{closure:List (Str × Addr)}{qual:Str}{outer:Env}{Q:Env→Shared→Prop}
  (hQ:Q (newEnv scope s.heap.objs.size globals (cellsFrom (s.heap.push { cls:=.type "dict",data:=.dict #[] }).objs.size scope.names closure) qual none .none (some outer) builtinsNs) { s with heap:=pushCells (s.heap.push { cls:=.type "dict",data:=.dict #[] }) scope.names }) :
  wpAny M A (newFunctionEnv scope globals closure [] qual none .none (some outer)) Q E s:=by
 refine wpAny_bind (wpAny_alloc ?_)
 refine wpAny_bind (wpAny_layCells _ (fun name kind cells=>by cases hkc:kind == NameKind.cell <;> simp [hkc]) _ _ _ _ ?_)
 exact wpAny_bind (wpAny_pure (wpAny_pure hQ))
section
variable {X:Cx}{pins:List (Addr × Obj)}{σ:St}{H:Hp}{s:Shared}{scope:Scope}{N:List Str}{C:Addr}{ex:List Addr}
structure zHE (X:Cx) (scope:Scope) (N:List Str) (k:Nat) (js:List Nat):Prop where
 calm:X.calm=true
 kind:scope.kind=.function
 cell:∀ x,(x,NameKind.cell)∈scope.names→scope.names.lookup x=some .cell
 free:∀ x,(x,NameKind.free)∈scope.names→(X.env.kindOf x=some .cell∨X.env.kindOf x=some .free)
 names:∀ x∈scope.names,x.2=.local→scope.names.lookup x.1=some .local
 len:N.length=k+js.length
 js:∀ i j,js[i]?=some j→∃ x,N[k+i]?=some x∧X.N[j]?=some x∧scope.names.lookup x=some .free∧Vis X.env.scope x
theorem zCC {env:Env}{ns:List (Str × NameKind)}{x:Str}{c:Addr} (h:(clOf env ns []).lookup x=some c):env.cells.lookup x=some c:=zDL _ _ (fun _ _ z=>by cases z) x c h
theorem Inv.compOk (I:Inv X pins σ H s) (hk:scope.kind=.function) (hf:∀ x,(x,NameKind.free)∈scope.names→∃ c,X.env.cells.lookup x=some c) {h:Heap} (hh:h.objs.size=C+1) (hC:s.heap.objs.size≤C) (hex:∀ b∈ex,FpOk X pins H b) (hxs:∀ b∈ex,b<s.heap.objs.size) :
  (zAj X scope N (cellsFrom h.objs.size scope.names (clOf X.env scope.names [])) s H C ex).Ok where
 mod:=I.ok.mod
 kind:=hk
 glob:=I.ok.glob
 blt:=I.ok.blt
 above:=hC
 inj:=zEt _ _ _ (fun x c e=>by
  obtain ⟨v,q⟩:=I.cell x c (zCC e)
  rw [hh]; exact Nat.lt_succ_of_lt (Nat.lt_of_lt_of_le q.lt hC)) fun x y c e1 e2=>I.ok.inj x y c (zCC e1) (zCC e2)
 has:=fun x h=>by
  have m:=zDW (scope:=scope) (env:=X.env) (x:=x) (k:=.cell)
  have m2:=zDW (scope:=scope) (env:=X.env) (x:=x) (k:=.free)
  have q:(x,NameKind.free)∈scope.names∨(x,NameKind.cell)∈scope.names:=by
   rcases h with h | h
   ·exact m h (.inl rfl)
   ·exact m2 h (.inr rfl)
  refine zCm _ _ _ ?_
  rcases q with q | q
  ·exact .inr (zCl _ _ x (.inr ⟨q,hf x q⟩))
  ·exact .inl q
 cab:=fun x c h e=>by
  rcases zAU _ _ _ e with ⟨_,q,_⟩ | ⟨q,_⟩
  ·show s.heap.objs.size≤c; lia
  ·exact absurd (of_decide_eq_true h) q
 hd:=I.ok.hd
 frames:=I.ok.frames
 stk:=.inl rfl
 exf:=fun b hb=>⟨fun z=>by
   have z':=z
   exact Nat.lt_irrefl _ (Nat.lt_of_lt_of_le (hxs b hb) (by rw [z']; exact hC)),fun x c e=>by
   rcases zAU _ _ _ e with ⟨_,q,_⟩ | ⟨_,q⟩
   ·exact Nat.ne_of_gt (Nat.lt_of_lt_of_le (hxs b hb) (Nat.le_trans hC (Nat.le_of_lt (Nat.lt_of_lt_of_le (by rw [hh]; exact Nat.lt_succ_self C) q))))
   ·exact (hex b hb).2.2.2.2.1 x c (zCC q)⟩
 bs:=I.bs
 bsz:=Nat.le_trans I.ok.bsz I.sz
 noex:=fun b o e hb=>by
  rcases (hex b hb).2.2.2.1 with z | z
  ·exact I.ok.noex b o e z
  ·exact Nat.lt_irrefl _ (Nat.lt_of_lt_of_le (Heap.lt_size e) (Nat.le_trans I.ok.bsz z))
 exfs:=fun b hb z=>by
  rcases List.mem_cons.mp (I.stkSub b z) with q | q
  ·exact (hex b hb).2.1 q
  ·exact (hex b hb).2.2.1 q
 funs:=I.stack
 frf:=I.stkFree
theorem zEn {prog:Program}{w:World}{A:Around}{R:Result→Shared→Prop}{elt target iter:Expr}{ifs:List Expr}{scope:Scope}{pos:Pos}{it acc:Value}{env:Env}{s:Shared} (J:Nat→Shared→Prop)
  (turn:∀ n s,J n s→wpAny (model prog w) A (pyNext it) (fun r s1=>match r with
   | none=>R (.ok .next) s1
   | some v=>wpAny (model prog w) A (letOwnedTupleGo target it v) (fun _ s1'=>wpAny (model prog w) A (assign target env v) (fun _ s2 =>
     wpAny (model prog w) A (forIn ifs true fun c r=>if r=true then do let ok ← isTrue c env (eval c env); pure (ForInStep.yield ok) else pure (ForInStep.yield r)) (fun ok s3 =>
      if ok=true then wpAny (model prog w) A (eval elt env) (fun x s4 =>
       wpAny (model prog w) A (call (.builtin "list.append") [acc,x]) (fun _ s5=>∃ m,m<n∧J m s5) (notedBy (model prog w) A env fun e s'=>R (.error e) s') s4) (notedBy (model prog w) A env fun e s'=>R (.error e) s') s3
      else ∃ m,m<n∧J m s3) (notedBy (model prog w) A env fun e s'=>R (.error e) s') s2) (notedBy (model prog w) A env fun e s'=>R (.error e) s') s1') (notedBy (model prog w) A env fun e s'=>R (.error e) s') s1) (notedBy (model prog w) A env fun e s'=>R (.error e) s') s)
  (n:Nat) (h:J n s) :
  codeAny (model prog w) A (.compLoop (.ListComp elt [⟨target,iter,ifs,0⟩] scope pos) 0 it acc env) R s:=by
 refine codeAny_loop rfl J (fun n s hI=>?_) n h
 show wpAny _ A ((compTurn (.ListComp elt [⟨target,iter,ifs,0⟩] scope pos) 0 it acc env).onRaise (fun x=>do noteFrame x env; theTreesLotGoes x)) _ _ s
 refine wpAny_noted ?_
 rw [compTurn_list]
 refine wpAny_bind (wpAny_standAt (wpAny_bind (wpAny_mono (turn n s hI) (fun r s1 h1=>?_) fun _ _ h'=>h')))
 cases r with
 | none=>exact wpAny_pure h1
 | some v =>
  refine wpAny_bind (wpAny_mono h1 (fun _ s1' h1'=>?_) fun _ _ h'=>h')
  refine wpAny_bind (wpAny_mono h1' (fun _ s2 h2=>wpAny_bind (wpAny_mono h2 (fun ok s3 h3=>?_) fun _ _ h'=>h')) fun _ _ h'=>h')
  cases ok with
  | false=>exact wpAny_pure ⟨rfl,h3⟩
  | true =>
   exact wpAny_bind (wpAny_bind (wpAny_mono h3 (fun x s4 h4=>wpAny_bind (wpAny_mono h4 (fun _ s5 h5=>wpAny_pure (wpAny_pure ⟨rfl,h5⟩)) fun _ _ h'=>h')) fun _ _ h'=>h'))
def PTs (X:Cx) (ifs:List Expr) (t:TT):Prop :=
 ∀ (pins:List (Addr × Obj)) (s:Shared) (σ:St) (H:Hp) (Q:Bool→Hp→Prop),Inv X pins σ H s→t σ H Q →
  wpAny (model X.prog X.w) X.A (forIn ifs true fun c r=>if r=true then do let ok ← isTrue c X.env (eval c X.env); pure (ForInStep.yield ok) else pure (ForInStep.yield r)) (TP X pins σ Q) X.xe s
noncomputable def tYes:TT:=fun _ H Q=>Q true H
theorem zKT {X:Cx}:PTs X [] tYes:=fun pins s σ H Q I h=>wpAny_tests_nil ⟨H,I,h⟩
theorem zQn {X:Cx}{c:Expr}{t:TT} (h:PT X c t):PTs X [c] t:=fun pins s σ H Q I hw=>wpAny_tests_one (h pins s σ H Q I hw)
def zMW (J:It) (D:Addr) (W:Nat→Nat→List V→Hp→Prop) (Q:Hp→Prop) (g:TG) (tc:TT) (te:TE) (σ0:St) (i m:Nat) (ys:List V) (H2:Hp):Prop :=
 H2 D=some (.lst ys)∧((J.stop i H2∧Q H2)∨(J.go i H2∧ys.length<sizeLine∧∀ x H3,J.yld i H2 x H3→g x σ0 H3 fun σ4 H4=>zGj σ0 σ4∧tc σ4 H4 fun b H5 =>
   if b=true then te σ4 H5 fun y H6=>H6 D=some (.lst ys)∧∃ m',m'<m∧W (i+1) m' (ys++[y]) (upd H6 D (.lst (ys++[y]))) else ∃ m',m'<m∧W (i+1) m' ys H5))
noncomputable def stC (k:Nat) (js:List Nat) (σ:St):St:=List.replicate k Option.none++js.map fun j=>(σ[j]?).getD Option.none
noncomputable def zKx (wi:TI) (k:Nat) (js:List Nat) (g:TG) (tc:TT) (te:TE):TE:=fun σ H Q =>
 wi σ H fun J H1=>∀ D,H1 D=none→∃ W:Nat→Nat→List V→Hp→Prop,(∃ m,W 0 m [] (upd H1 D (.lst [])))∧∀ i m ys H2,W i m ys H2→zMW J D W (Q (.ref D)) g tc te (stC k js σ) i m ys H2
theorem zHH {k:Nat}{js:List Nat}{σ:St}{i:Nat}{v:V} (h:(stC k js σ)[i]?=some (some v)):∃ j,k≤i∧js[i - k]?=some j∧σ[j]?=some (some v):=by
 unfold stC at h
 by_cases hi:i<k
 ·rw [List.getElem?_append_left (by simpa using hi),List.getElem?_replicate] at h
  simp at h
 ·rw [List.getElem?_append_right (by simpa using hi),List.length_replicate,List.getElem?_map] at h
  cases e:js[i - k]? with
  | none=>rw [e] at h; simp at h
  | some j =>
   rw [e] at h
   simp only [Option.map_some,Option.some.injEq] at h
   refine ⟨j,by lia,rfl,?_⟩
   cases q:σ[j]? with
   | none=>rw [q] at h; simp at h
   | some z =>
    rw [q] at h
    simp at h
    rw [h]
theorem zDt {scope:Scope}{env:Env}{x:Str} (h:scope.names.lookup x=some .free):(relabel scope env).names.lookup x=some .cell∨(relabel scope env).names.lookup x=some .free:=by
 unfold relabel
 dsimp only
 generalize scope.names=ns at h
 induction ns with
 | nil=>cases h
 | cons a r ih =>
  obtain ⟨n,k⟩:=a
  rw [List.lookup_cons] at h
  rw [List.map_cons]
  cases hx:x == n with
  | true =>
   rw [hx] at h
   cases h
   split
   ·exact .inl (by rw [List.lookup_cons,hx])
   ·exact .inr (by rw [List.lookup_cons,hx])
  | false =>
   rw [hx] at h
   split
   ·rw [List.lookup_cons,hx]; exact ih h
   ·rw [List.lookup_cons,hx]; exact ih h
inductive CInv (Y:Cx) (σ0:St) (tn:Nat→Heap→Prop) (fp:List Addr) (W:Nat→Nat→List V→Hp→Prop) (n:Nat) (s:Shared):Prop
 | mk (i:Nat) (ys:List V) (H:Hp) (I:Inv Y [] σ0 H s) (st:tn i s.heap) (fr:∀ b∈fp,H b=none) (w:W i n ys H)
theorem zMl {Y:Cx}{elt iter tg:Expr}{ifs:List Expr}{scope:Scope}{pos:Pos}{g:TG}{tc:TT}{te:TE}{J:It}{fp:List Addr}{it D:Addr}{tn:Nat→Heap→Prop}{σ0:St}{W:Nat→Nat→List V→Hp→Prop}{Q:Hp→Prop}{R:Result→Shared→Prop}
  (hc:Y.calm=true) (hx:Y.xe=fun _ _=>False) (T:Turn Y.prog Y.w Y.K tg J fp it tn) (stat:∀ H',(∀ b∈fp,H' b=none)→∀ b∈fp,FpOk Y [] H' b)
  (hg:PG Y tg g) (htc:PTs Y ifs tc) (hte:PE Y elt te) (turn:∀ i m ys H2,W i m ys H2→zMW J D W Q g tc te σ0 i m ys H2) (fin:∀ H4 s5,Inv Y [] σ0 H4 s5→Q H4→R (.ok .next) s5)
  {s:Shared}{n:Nat} (h0:CInv Y σ0 tn fp W n s) (st3:tn 0 s.heap):codeAny (model Y.prog Y.w) Y.A (.compStart (.ListComp elt [⟨tg,iter,ifs,0⟩] scope pos) 0 (.ref it) (.ref D) Y.env) R s:=by
 have loop:codeAny (model Y.prog Y.w) Y.A (.compLoop (.ListComp elt [⟨tg,iter,ifs,0⟩] scope pos) 0 (.ref it) (.ref D) Y.env) R s:=by
  refine zEn (CInv Y σ0 tn fp W) ?_ n h0
  rintro n s4 ⟨i,ys,H4,I4,st4,fr4,w4⟩
  obtain ⟨hD4,hd⟩:=turn i n ys H4 w4
  rcases hd with ⟨stop,q⟩ | ⟨go,hz,step⟩
  ·refine thn (T.done Y rfl rfl rfl hc i [] s4 _ H4 _ I4 (stat _ fr4) st4 stop) fun r s5 ⟨hr,I5⟩=>?_
   subst hr
   exact fin H4 s5 I5 q
  ·refine thn (T.item Y rfl rfl rfl hc i [] s4 _ H4 _ I4 (stat _ fr4) st4 go) fun r s5 ⟨u,hr,h5⟩=>?_
   subst hr
   refine thn h5 fun _ s6 ⟨x,H6,I6,r6,y6,st6,fr6⟩=>?_
   have I6':=I6.pinned (stat _ fr6) (T.obj _ _ st6)
   have back:∀ {σ7:St}{H7:Hp}{s7:Shared}{m:Nat}{zs:List V},Inv Y ([]++zFl fp s6.heap) σ7 H7 s7→zGj σ0 σ7→W (i+1) m zs H7→CInv Y σ0 tn fp W m s7:=fun {σ7 H7 s7 m zs} I7 hw w7=>by
    refine ⟨i+1,zs,H7,I7.unpinned.weak hw.1 hw.2,T.keep _ _ _ st6 fun b hb o e=>(I7.pin (b,o) (List.mem_append_right _ (List.mem_append_right _ (zAS hb e)))).1,fun b hb=>?_,w7⟩
    obtain ⟨o,e,d⟩:=T.obj _ _ st6 b hb
    exact (I7.pin (b,o) (List.mem_append_right _ (List.mem_append_right _ (zAS hb e)))).2.1
   have no:∀ {E:Value→Shared→Prop} e s',Y.xe e s'→E e s':=fun e s' z=>by rw [hx] at z; exact z.elim
   refine wpAny_mono (hg _ s6 _ H6 x u _ I6' r6 (step x H6 y6)) (fun _ s7 ⟨σ7,H7,I7,hw7,q7⟩=>?_) no
   refine wpAny_mono (htc _ s7 σ7 H7 _ I7 q7) (fun b s8 ⟨H8,I8,q8⟩=>?_) no
   cases b with
   | false =>
    obtain ⟨m',hm,w8⟩:=(by simpa using q8)
    exact ⟨m',hm,back I8 hw7 w8⟩
   | true =>
    refine wpAny_mono (hte _ s8 σ7 H8 _ I8 q8) (fun y s9 ⟨vy,H9,I9,r9,q9⟩=>?_) no
    obtain ⟨hD9,m',hm,w9⟩:=q9
    refine wpAny_mono (zE1 _ s9 σ7 H9 (.ref D) [vy] (.ref D) [y] (fun _ H'=>W (i+1) m' (ys++[vy]) H') I9 rfl (.cons r9 .nil) ⟨_,ys,vy,rfl,rfl,hD9,hz,w9⟩) (fun z s10 ⟨_,H10,I10,_,q10⟩=>?_) no
    exact ⟨m',hm,back I10 hw7 q10⟩
 exact codeAny_compStart_list loop (T.self _ 0 _ _ _ st3 loop)
theorem zFy {elt iter tg:Expr}{ifs:List Expr}{pos:Pos}{k:Nat}{js:List Nat}{J:It}{fp:List Addr}{it:Addr}{tn:Nat→Heap→Prop}{H2:Hp}{s2:Shared}{RR:Value→Addr→Result→Shared→Prop}
  (B:zHE X scope N k js) (I2:Inv X pins σ H2 s2) (T:Turn X.prog X.w X.K tg J fp it tn) (st2:tn 0 s2.heap) (f2:∀ b∈fp,FpOk X pins H2 b)
  (h:∀ (cl:List (Str × Addr)) (C:Addr) (s4:Shared),s2.heap.objs.size≤C→s2.heap.objs.size≠C→Inv (zAj X scope N cl s2 H2 C fp) [] (stC k js σ) (upd H2 s2.heap.objs.size (.lst [])) s4→tn 0 s4.heap →
   codeAny (model X.prog X.w) X.A (.compStart (.ListComp elt [⟨tg,iter,ifs,0⟩] scope pos) 0 (.ref it) (.ref s2.heap.objs.size) (compEnvC scope cl C X.env)) (RR (.ref s2.heap.objs.size) C) s4) :
  wpAny (model X.prog X.w) X.A (newList []) (fun acc s3=>wpAny (model X.prog X.w) X.A (newFunctionEnv scope X.env.globals (clOf X.env scope.names []) [] X.env.qual none .none (some X.env)) (fun cenv s4 =>
   codeAny (model X.prog X.w) X.A (.compStart (.ListComp elt [⟨tg,iter,ifs,0⟩] scope pos) 0 (.ref it) acc { cenv with scope:=relabel scope X.env }) (RR acc cenv.locals) s4) X.xe s3) X.xe s2:=by
 have hcell:=fun x hx=>I2.ok.has x (B.free x hx)
 refine wpAny_newObj_type (zEI ?_)
 dsimp only
 generalize hP:s2.heap.push { cls:=.type "list",dict:=none,data:=.seq ([]).toArray }=P
 have hPs:P.objs.size=s2.heap.objs.size+1:=by rw [← hP,Heap.size_push]
 have hDC:s2.heap.objs.size≠P.objs.size:=by rw [hPs]; exact Nat.ne_of_lt (Nat.lt_succ_self _)
 have hCle:s2.heap.objs.size≤P.objs.size:=by rw [hPs]; exact Nat.le_succ _
 generalize hP2:P.push { cls:=.type "dict",data:=.dict #[] }=P2
 have hP2s:P2.objs.size=P.objs.size+1:=by rw [← hP2,Heap.size_push]
 have hns1:(pushCells P2 scope.names).Ns P.objs.size (fun _=>none):=(hP2▸Heap.Ns.new P (.type "dict")).keeps (pushCells_keeps _ _)
 have old:∀ b o,s2.heap.get? b=some o→(pushCells P2 scope.names).get? b=some o:=fun b o e=>pushCells_keeps _ _ _ _ (hP2▸Heap.get?_push_of_some _ (hP▸Heap.get?_push_of_some _ e))
 have hacc:(pushCells P2 scope.names).get? s2.heap.objs.size=some { cls:=.type "list",dict:=none,data:=.seq ([]).toArray }:=pushCells_keeps _ _ _ _ (hP2▸Heap.get?_push_of_some _ (hP▸Heap.get?_push_size _ rfl))
 have hfx:∀ b∈fp,b<s2.heap.objs.size:=fun b hb=>by
  obtain ⟨o,e,_⟩:=T.obj _ _ st2 b hb
  exact Heap.lt_size e
 have ok:=I2.compOk (N:=N) B.kind hcell hP2s hCle f2 hfx
 refine h (cellsFrom P2.objs.size scope.names (clOf X.env scope.names [])) P.objs.size _ hCle hDC ?_ (T.keep _ _ _ st2 fun b _ o e=>old b o e)
 refine ⟨ok,rfl,I2.bare,Un.laid old (Nat.le_refl _) (I2.hok.fresh (Nat.le_refl _)),⟨_,hns1,fun i x v e1 e2 e3=>?_⟩,fun x c e=>?_,?_,fun x c e=>?_,fun p hp=>(by cases hp),I2.hok.laid old (Nat.le_refl _) ?_,?_⟩
 ·obtain ⟨j,hki,hj,hv⟩:=zHH e2
  obtain ⟨y,n1,n2,n3,n4⟩:=B.js _ j hj
  have ei:k+(i - k)=i:=by lia
  rw [ei] at n1
  have e1':N[i]?=some x:=e1
  rw [n1] at e1'
  cases e1'
  obtain ⟨m,hn,hl⟩:=I2.loc
  obtain ⟨u,r,lk⟩:=hl j x v n2 hv n4
  refine ⟨u,r,?_⟩
  have mem:=zAT n3
  rcases lk with ⟨kk,_⟩ | ⟨kk,c,ec,ce⟩
  ·rcases B.free x mem with z | z
   ·rw [z] at kk; cases kk
   ·rw [z] at kk; cases kk
  ·obtain ⟨c0,ec0⟩:=zCm scope.names P2.objs.size _ (.inr (zCl scope.names [] x (.inr ⟨mem,c,ec⟩)))
   have hc0:c0=c:=by
    rcases zAU _ _ _ ec0 with ⟨q,_⟩ | ⟨_,q⟩
    ·have:=B.cell x q; rw [n3] at this; cases this
    ·have:=zCC q; rw [ec] at this; cases this; rfl
   subst hc0
   refine .inr ⟨zDt n3,c0,ec0,?_⟩
   obtain ⟨o,ho,hd⟩:=ce
   exact ⟨o,old _ _ ho,hd⟩
 ·rcases zAU _ _ _ e with ⟨_,_,q⟩ | ⟨_,q⟩
  ·exact ⟨_,q⟩
  ·obtain ⟨v,o,ho,hd⟩:=I2.cell x c (zCC q)
   exact ⟨v,o,old _ _ ho,hd⟩
 ·show upd H2 s2.heap.objs.size (.lst []) P.objs.size=none
  rw [zA5 (Ne.symm hDC)]
  exact I2.hok.fresh hCle
 ·rcases zAU _ _ _ e with ⟨_,q,_⟩ | ⟨_,q⟩
  ·have hlt:s2.heap.objs.size<c:=Nat.lt_of_lt_of_le (by lia) q
   rw [zA5 (Nat.ne_of_gt hlt)]
   exact I2.hok.fresh (Nat.le_of_lt hlt)
  ·obtain ⟨v,o,ho,hd⟩:=I2.cell x c (zCC q)
   rw [zA5 (Nat.ne_of_lt (Heap.lt_size ho))]
   exact I2.freeC x c (zCC q)
 ·exact ⟨Nat.zero_le _,[],_,.nil,hacc⟩
 ·unfold stC
  rw [List.length_append,List.length_replicate,List.length_map]
  exact B.len.symm
theorem zJj {elt iter tg:Expr}{ifs:List Expr}{pos:Pos}{k:Nat}{js:List Nat}{g:TG}{tc:TT}{te:TE}{J:It}{fp:List Addr}{it:Addr}{tn:Nat→Heap→Prop}{H2:Hp}{s2:Shared}{RR:Value→Addr→Result→Shared→Prop}{Q:V→Hp→Prop}
  (B:zHE X scope N k js) (I2:Inv X pins σ H2 s2) (T:Turn X.prog X.w X.K tg J fp it tn) (st2:tn 0 s2.heap) (f2:∀ b∈fp,FpOk X pins H2 b)
  (hg:∀ cl s H C ex,PG (zAj X scope N cl s H C ex) tg g) (htc:∀ cl s H C ex,PTs (zAj X scope N cl s H C ex) ifs tc) (hte:∀ cl s H C ex,PE (zAj X scope N cl s H C ex) elt te)
  (hW:∀ D,H2 D=none→∃ W:Nat→Nat→List V→Hp→Prop,(∃ m,W 0 m [] (upd H2 D (.lst [])))∧∀ i m ys H2,W i m ys H2→zMW J D W (Q (.ref D)) g tc te (stC k js σ) i m ys H2)
  (fin:∀ cl C H4 s5,s2.heap.objs.size≤C→s2.heap.objs.size≠C→Inv (zAj X scope N cl s2 H2 C fp) [] (stC k js σ) H4 s5→Q (.ref s2.heap.objs.size) H4→RR (.ref s2.heap.objs.size) C (.ok .next) s5) :
  wpAny (model X.prog X.w) X.A (newList []) (fun acc s3=>wpAny (model X.prog X.w) X.A (newFunctionEnv scope X.env.globals (clOf X.env scope.names []) [] X.env.qual none .none (some X.env)) (fun cenv s4 =>
   codeAny (model X.prog X.w) X.A (.compStart (.ListComp elt [⟨tg,iter,ifs,0⟩] scope pos) 0 (.ref it) acc { cenv with scope:=relabel scope X.env }) (RR acc cenv.locals) s4) X.xe s3) X.xe s2:=by
 obtain ⟨W,⟨m0,w0⟩,turn⟩:=hW s2.heap.objs.size (I2.hok.fresh (Nat.le_refl _))
 refine zFy B I2 T st2 f2 fun cl C s4 h1 h2 I4 st4=>?_
 refine zMl (Y:=zAj X scope N cl s2 H2 C fp) B.calm rfl T (fun H' hn b hb=>⟨hn b hb,(I4.ok.exf b hb).1,I4.ok.exfs b hb,.inl hb,(I4.ok.exf b hb).2,fun p hp=>by cases hp⟩) (hg _ _ _ _ _) (htc _ _ _ _ _) (hte _ _ _ _ _) turn (fun H4 s5 I5 q=>fin cl C H4 s5 h1 h2 I5 q) ⟨0,[],_,I4,st4,fun b hb=>?_,w0⟩ st4
 obtain ⟨o,e,_⟩:=T.obj _ _ st2 b hb
 rw [zA5 (Nat.ne_of_lt (Heap.lt_size e))]
 exact (f2 b hb).1
theorem zQC {elt iter tg:Expr}{ifs:List Expr}{pos:Pos}{wi:TI}{g:TG}{tc:TT}{te:TE}{k:Nat}{js:List Nat} (B:zHE X scope N k js) (hi:PI X tg iter wi)
  (hg:∀ cl s H C ex,PG (zAj X scope N cl s H C ex) tg g) (htc:∀ cl s H C ex,PTs (zAj X scope N cl s H C ex) ifs tc) (hte:∀ cl s H C ex,PE (zAj X scope N cl s H C ex) elt te)
  (hs:∀ x,foldedSetIterable iter X.env x=pure x:=by intro _; rfl):PE X (.ListComp elt [⟨tg,iter,ifs,0⟩] scope pos) (zKx wi k js g tc te):=by
 intro pins s σ H Q I h
 refine wpAny_comprehension_free rfl hs (zAO fun x hx=>I.ok.has x (B.free x hx)) B.kind B.names (thn (hi pins s σ H _ I h) fun v s1 h1=>thn h1 fun itv s2 h2=>?_)
 obtain ⟨it,fp,tn,J,H2,e,I2,T,st2,f2,hW⟩:=h2
 subst e
 refine zJj B I2 T st2 f2 hg htc hte hW fun cl C H4 s5 hCle hDC I5 q=>?_
 obtain ⟨m,hn,_⟩:=id I5.loc
 have hC4:H4 C=none:=I5.free
 refine ⟨m,hn,fun h' hs'=>⟨.ref s2.heap.objs.size,H4,?_,rfl,q⟩⟩
 have bl:∀ b o,s2.heap.get? b=some o→b≠C:=fun b o e=>Nat.ne_of_lt (Nat.lt_of_lt_of_le (Heap.lt_size e) hCle)
 refine I2.call' (s':={ s5 with heap:=h' }) I5.os ?_ (fun b u e=>?_) I5.bare (fun b hb=>⟨(f2 b hb).2.2.2.1,(f2 b hb).2.1,(f2 b hb).2.2.2.2.1,(f2 b hb).2.2.2.2.2⟩)
 ·have U:=I5.base
  exact ⟨fun b o e n hb hx=>(hs'.2 b (bl b o e)).trans (U.keep b o e n hb hx),fun b o e n hb hx=>by
    obtain ⟨sl,z⟩:=U.slot b o e n hb hx
    exact ⟨sl,(hs'.2 b (bl b o e)).trans z⟩,U.free,fun b o e hx=>by
    obtain ⟨o',z⟩:=U.there b o e hx
    exact ⟨o',(hs'.2 b (bl b o e)).trans z⟩,U.tups,U.frzs,U.tbls⟩
 ·refine (I5.hok b u e).stay (fun c w' hcc q'=>(hs'.2 c ?_).trans q') (fun _ q'=>q') fun _ _ q'=>q'
  rintro rfl
  rcases hcc with rfl | hcc
  ·rw [hC4] at e; cases e
  ·rw [hC4] at hcc; cases hcc
end
theorem zFH {H:Hp}{p:Addr} (h:H p=none) (o:HO):Same H (upd H p o):=fun b u q=>by rw [zA5 (zAm q h)]; exact q
theorem Same.tup {K:W.Frag}{H H':Hp}{a:Addr}{xs:List V} (e:Same H H') (h:SqT K H a xs):SqT K H' a xs:=by
 rcases h with (h | ⟨o,h⟩) | h
 ·exact .inl (.inl (e _ _ h))
 ·exact .inl (.inr ⟨o,e _ _ h⟩)
 ·exact .inr h
section
variable {X:Cx}{pins:List (Addr × Obj)}{σ:St}{H:Hp}{s:Shared}
theorem Inv.yields {wr:List Addr}{h':Heap}{tk:Nat}{T:Addr}{xs:List V}{its:List Value} (I:Inv X pins σ H s) (hf:∀ b∈wr,FpOk X pins H b) (k:∀ b o,b∉wr→s.heap.get? b=some o→h'.get? b=some o)
  (hT:s.heap.objs.size≤T) (r:Vals xs its) (hz:xs.length≤sizeLine) (ht:IsTup h' T its.toArray):Inv X pins σ (upd H T (.tup xs)) { s with heap:=h',toks:=tk }:=by
 have nT:∀ b o,s.heap.get? b=some o→b≠T:=fun b o e=>Nat.ne_of_lt (Nat.lt_of_lt_of_le (Heap.lt_size e) hT)
 have hH:∀ b u,H b=some u→b≠T:=fun b u e=>Nat.ne_of_lt (Nat.lt_of_lt_of_le (I.hok.lt e) hT)
 have nw:∀ b u,H b=some u→b∉wr:=fun b u e hb=>by rw [(hf b hb).1] at e; cases e
 refine I.call' (s':={ s with heap:=h',toks:=tk }) rfl ⟨fun b o e n _ hx=>k b o hx e,fun b o e n _ hx=>⟨o.slots,k b o hx e⟩,fun b o e n _=>?_,fun b o e hx=>⟨o,k b o hx e⟩,fun b ys e=>?_,fun b o u e=>?_,fun b ps e=>⟨#[],?_⟩⟩ (fun b u e=>?_) I.bare
  (fun b hb=>⟨(hf b hb).2.2.2.1,(hf b hb).2.1,(hf b hb).2.2.2.2.1,(hf b hb).2.2.2.2.2⟩)
 ·rw [zA5 (nT b o e)]; exact n
 ·rw [zA5 (hH b _ e)]; exact e
 ·rw [zA5 (hH b _ e)]; exact e
 ·rw [zA5 (hH b _ e),e]; simp
 ·by_cases hb:b=T
  ·subst hb
   rw [zA4] at e
   cases e
   exact ⟨hz,its,r,ht⟩
  ·rw [zA5 hb] at e
   refine (I.hok b u e).stay (fun c v hc q=>k c v ?_ q) (fun c q=>?_) fun c ys q=>?_
   ·rcases hc with rfl | hc
    ·exact nw _ _ e
    ·exact nw _ _ hc
   ·rw [zA5 (hH c _ q)]; exact q
   ·rw [zA5 (hH c _ q)]; exact q
theorem Inv.turnedL {wr:List Addr}{h':Heap}{tk:Nat} (I:Inv X pins σ H s) (hf:∀ b∈wr,FpOk X pins H b) (k:∀ b o,b∉wr→s.heap.get? b=some o→h'.get? b=some o):Inv X pins σ H { s with heap:=h',toks:=tk }:=by
 have nw:∀ b u,H b=some u→b∉wr:=fun b u e hb=>by rw [(hf b hb).1] at e; cases e
 refine I.call' (s':={ s with heap:=h',toks:=tk }) rfl ⟨fun b o e n _ hx=>k b o hx e,fun b o e n _ hx=>⟨o.slots,k b o hx e⟩,fun b o e n _=>n,fun b o e hx=>⟨o,k b o hx e⟩,fun b ys e=>e,fun b o u e=>e,fun b ps e=>⟨#[],by rw [e]; simp⟩⟩ (fun b u e=>?_) I.bare
  (fun b hb=>⟨(hf b hb).2.2.2.1,(hf b hb).2.1,(hf b hb).2.2.2.2.1,(hf b hb).2.2.2.2.2⟩)
 refine (I.hok b u e).stay (fun c v hc q=>k c v ?_ q) (fun c q=>q) fun c ys q=>q
 rcases hc with rfl | hc
 ·exact nw _ _ e
 ·exact nw _ _ hc
end
section
variable {X:Cx}
theorem zIn:zAw X (.type "range") (fun vs H Q=>∃ i j:Int,vs=[.int i,.int j]∧∀ p,H p=none→Q (.ref p) (upd H p (.rng i j))):=by
 intro pins s σ H xs us Q I r h
 obtain ⟨i,j,rfl,q⟩:=h
 obtain ⟨u,v,rfl,ru,rv⟩:=zJp r
 obtain ⟨t,rfl⟩:=ru
 obtain ⟨t',rfl⟩:=rv
 refine call_range_2 ⟨.ref s.heap.objs.size,_,I.laid (fun b o e=>Heap.get?_push_of_some _ e) (Nat.le_refl _) ?_,rfl,q _ (I.hok.fresh (Nat.le_refl _))⟩
 exact ⟨_,_,_,Heap.get?_push_size _ rfl⟩
theorem zIo:zAw X (.type "range") (fun vs H Q=>∃ j:Int,vs=[.int j]∧∀ p,H p=none→Q (.ref p) (upd H p (.rng 0 j))):=by
 intro pins s σ H xs us Q I r h
 obtain ⟨j,rfl,q⟩:=h
 obtain ⟨u,rfl,ru⟩:=zBm r
 obtain ⟨t,rfl⟩:=ru
 refine call_range_1 ⟨.ref s.heap.objs.size,_,I.laid (fun b o e=>Heap.get?_push_of_some _ e) (Nat.le_refl _) ?_,rfl,q _ (I.hok.fresh (Nat.le_refl _))⟩
 exact ⟨_,_,_,Heap.get?_push_size _ rfl⟩
noncomputable def upV (lo:Int) (n:Nat):List V:=(List.range n).map fun k=>V.int (lo+(k:Nat))
theorem zPE {lo:Int}{n:Nat}{acc:Array Value} (h:ItemsOf (fun i v=>∃ t,v=.int (lo+i*1) t) acc n):Vals (upV lo n) acc.toList:=by
 obtain ⟨hs,h⟩:=h
 have key:∀ k us lo,us.length=k→(∀ i v,us[i]?=some v→∃ t,v=Value.int (lo+(i:Nat)) t)→Vals ((List.range k).map fun j=>V.int (lo+(j:Nat))) us:=by
  intro k
  induction k with
  | zero=>intro us lo hl _; cases us with
   | nil=>exact .nil
   | cons a r=>simp at hl
  | succ k ih =>
   intro us lo hl hh
   cases us with
   | nil=>simp at hl
   | cons a r =>
    rw [List.range_succ_eq_map,List.map_cons,List.map_map]
    refine .cons ?_ ?_
    ·obtain ⟨t,e⟩:=hh 0 a rfl
     exact ⟨t,e⟩
    ·have:=ih r (lo+1) (by simpa using hl) fun i v e=>by
      obtain ⟨t,q⟩:=hh (i+1) v (by simpa using e)
      exact ⟨t,by rw [q]; congr 1; lia⟩
     have e:((fun j=>V.int (lo+(j:Nat)))∘Nat.succ)=fun j=>V.int (lo+1+(j:Nat)):=by
      funext j
      simp only [Function.comp]
      congr 1
      lia
     rw [e]
     exact this
 exact key n acc.toList lo (by simpa using hs) fun i v e=>by
  obtain ⟨t,q⟩:=h i v (by simpa using e)
  exact ⟨t,by rw [q,Int.mul_one]⟩
theorem zG9 (hc:X.calm=true):zAw X (.type "list") (fun vs H Q=>∃ p i j,vs=[.ref p]∧H p=some (.rng i j)∧-(2 ^ 62)≤i∧i<2 ^ 62∧-(2 ^ 62)≤j∧j<2 ^ 62∧(j - i).toNat≤1000∧∀ l,H l=none→Q (.ref l) (upd H l (.lst (upV i (j - i).toNat)))):=by
 intro pins s σ H xs us Q I r h
 obtain ⟨p,i,j,rfl,hp,b1,b2,b3,b4,hn,q⟩:=h
 obtain ⟨u,rfl,ru⟩:=zBm r
 cases ru
 obtain ⟨t,u,v,e⟩:=(I.hok _ _ hp)
 refine call_list_range (I.ok.hd hc) (e) (small_one b1 b2 b3 b4) (by rw [rangeSize_one]; split <;> lia) (Nat.le_trans hn (by decide)) fun h' tk acc' c' hk he hi=>?_
 have hv:=zPE hi
 refine ⟨.ref s.heap.objs.size,_,I.laid (o:=.lst (upV i (j - i).toNat)) hk (Nat.le_refl _) ⟨?_,acc'.toList,c',hv,by simpa using he⟩,rfl,q _ (I.hok.fresh (Nat.le_refl _))⟩
 unfold upV
 rw [List.length_map,List.length_range]
 exact Nat.le_trans hn (by decide)
noncomputable def zQj:V→List V→Hp→VK→Prop:=fun x vs H Q=>∃ (l:Addr) (xs:List V) (i:Nat) (y:V),x=.ref l∧vs=[.int i,y]∧H l=some (.lst xs)∧xs.length<1000∧i≤xs.length∧Q .non (upd H l (.lst (xs.take i++y::xs.drop i)))
theorem zLn:MtM X "list.insert" zQj:=by
 intro pins s σ H x vs v us Q I rx rv h
 obtain ⟨l,xs,i,y,rfl,rfl,hH,hz,hi,q⟩:=h
 cases rx
 obtain ⟨u1,u2,rfl,r1,r2⟩:=rv.two
 obtain ⟨t,rfl⟩:=r1
 obtain ⟨z,its,n,r,hl,e⟩:=I.lstM hH
 generalize hx:(i:Int)=x
 have hfit:¬ (!Builtin.List.listFitsIndex x)=true:=by
  rw [fitsIndex_both (by lia) (by lia)]
  exact Bool.false_ne_true
 have hsz:its.toArray.size≤sizeLine:=by rw [List.size_toArray,← hl]; exact z
 refine call_meets F.slot_list_insert ⟨_,e,rfl⟩ F.entry_list_insert (F.args_list_insert_3 _ _ _) (PySem.AutoSeq1.list_insert_list_int_val_1 l _ n x t u2 hfit hsz) ⟨e,?_⟩
 refine ⟨.non,_,I.lset (its':=its.take i++u2::its.drop i) hH e ?_ ((r.take i).append (.cons r2 (r.drop i))) ?_,rfl,q⟩
 ·have hk:(if x<0 then (x+(its.toArray.size:Int)).toNat else min x.toNat its.toArray.size)=i:=by
   rw [if_neg (by lia),List.size_toArray]
   lia
  rw [hk]
  simp
  exact List.take_of_length_le (by rw [List.length_drop]; exact Nat.le_refl _)
 ·rw [List.length_append,List.length_cons,List.length_take,List.length_drop]
  have:1000≤sizeLine:=by decide
  lia
theorem zDN {A:Around}{prog:Program}{w:World}{bs:List Bool}{its:List Value} (r:Vals (bs.map V.bl) its):TruthOf prog w A (fun i v=>its.toArray[i]?=some v) (fun i=>bs.getD i false):=by
 intro i v s Q E hv hq
 have hv':=by simpa using hv
 have hl:i<bs.length:=by
  have h1:=(List.getElem?_eq_some_iff.mp hv').1
  have h2:=r.length
  rw [List.length_map] at h2
  lia
 obtain ⟨u,e,ru⟩:=Vals.get r (by rw [List.getElem?_map,List.getElem?_eq_getElem hl]; rfl)
 rw [e] at hv'
 cases hv'
 have ru':=ru
 subst ru'
 have eq:bs.getD i false=bs[i]:=by simp [List.getD,hl]
 have hq':Q (bs.getD i false) s:=hq
 rw [eq] at hq'
 exact wpAny_truthy_bool hq'
theorem zGE (bs:List Bool):(List.range bs.length).all (fun i=>bs.getD i false)=bs.all id:=by
 induction bs with
 | nil=>rfl
 | cons b r ih =>
  rw [List.length_cons,List.range_succ_eq_map,List.all_cons,List.all_map,List.all_cons]
  rw [← ih]
  rfl
theorem zGD (bs:List Bool):(List.range bs.length).any (fun i=>bs.getD i false)=bs.any id:=by
 induction bs with
 | nil=>rfl
 | cons b r ih =>
  rw [List.length_cons,List.range_succ_eq_map,List.any_cons,List.any_map,List.any_cons]
  rw [← ih]
  rfl
theorem zMF (hc:X.calm=true):zAw X (.builtin "all") (fun vs H Q=>∃ (p:Addr) (bs:List Bool),vs=[.ref p]∧SqL X.K H p (bs.map V.bl)∧Q (.bl (bs.all id)) H):=by
 intro pins s σ H xs us Q I r h
 obtain ⟨p,bs,rfl,hq,q⟩:=h
 obtain ⟨u,rfl,ru⟩:=zBm r
 cases ru
 obtain ⟨its,rv,pl,hz⟩:=I.list hq
 have hlt:p<s.heap.objs.size:=by obtain ⟨_,e,_⟩:=pl.isList; exact Heap.lt_size e
 have hlen:=rv.length
 rw [List.length_map] at hlen
 refine call_all_walk (wpAny_pyIter_list pl.isList ?_)
 refine ⟨s.heap.objs.size,_,[s.heap.objs.size],_,_,_,_,rfl,Walks.list (A:=X.A.in1) (I.ok.hd hc) s.heap.objs.size p (Nat.ne_of_lt hlt) its.toArray,⟨⟨_,Heap.get?_push_size _ rfl,rfl,rfl⟩,pl.isList.push _⟩,zDN rv,fun h' tk kk=>?_⟩
 have e:(List.range its.toArray.size).all (fun i=>bs.getD i false)=bs.all id:=by rw [List.size_toArray,← hlen]; exact zGE bs
 rw [e]
 refine ⟨.bl (bs.all id),H,?_,rfl,q⟩
 exact I.kept (t':=tk) fun b o eb=>kk b o (by simp only [List.mem_singleton]; exact Nat.ne_of_lt (Heap.lt_size eb)) (Heap.get?_push_of_some _ eb)
theorem zMD (hc:X.calm=true):zAw X (.builtin "any") (fun vs H Q=>∃ (p:Addr) (bs:List Bool),vs=[.ref p]∧SqL X.K H p (bs.map V.bl)∧Q (.bl (bs.any id)) H):=by
 intro pins s σ H xs us Q I r h
 obtain ⟨p,bs,rfl,hq,q⟩:=h
 obtain ⟨u,rfl,ru⟩:=zBm r
 cases ru
 obtain ⟨its,rv,pl,hz⟩:=I.list hq
 have hlt:p<s.heap.objs.size:=by obtain ⟨_,e,_⟩:=pl.isList; exact Heap.lt_size e
 have hlen:=rv.length
 rw [List.length_map] at hlen
 refine call_any_walk (wpAny_pyIter_list pl.isList ?_)
 refine ⟨s.heap.objs.size,_,[s.heap.objs.size],_,_,_,_,rfl,Walks.list (A:=X.A.in1) (I.ok.hd hc) s.heap.objs.size p (Nat.ne_of_lt hlt) its.toArray,⟨⟨_,Heap.get?_push_size _ rfl,rfl,rfl⟩,pl.isList.push _⟩,zDN rv,fun h' tk kk=>?_⟩
 have e:(List.range its.toArray.size).any (fun i=>bs.getD i false)=bs.any id:=by rw [List.size_toArray,← hlen]; exact zGD bs
 rw [e]
 refine ⟨.bl (bs.any id),H,?_,rfl,q⟩
 exact I.kept (t':=tk) fun b o eb=>kk b o (by simp only [List.mem_singleton]; exact Nat.ne_of_lt (Heap.lt_size eb)) (Heap.get?_push_of_some _ eb)
theorem zNQ:OpR X (compareOp .Is) (fun x y H Q=>∃ a b,x=.bl a∧y=.bl b∧Q (.bl (a == b)) H):=by
 intro pins s σ H x y v u Q I rx ry h
 obtain ⟨a,b,rfl,rfl,q⟩:=h
 cases rx
 cases ry
 exact is_bool ⟨.bl (a == b),H,I,rfl,q⟩
theorem zHQ:OpR X (compareOp .IsNot) (fun x y H Q=>∃ a b,x=.bl a∧y=.bl b∧Q (.bl (a != b)) H):=by
 intro pins s σ H x y v u Q I rx ry h
 obtain ⟨a,b,rfl,rfl,q⟩:=h
 cases rx
 cases ry
 exact isnot_bool ⟨.bl (a != b),H,I,rfl,q⟩
end
section
variable {X:Cx}
noncomputable def rCatT2 (K:W.Frag):R2:=fun x y H Q=>∃ a b xs ys,x=.ref a∧y=.ref b∧H a=some (.tup xs)∧H b=some (.tup ys)∧xs.length+ys.length≤sizeLine∧∀ p H1,Same H H1→H1 p=some (.tup (xs++ys))→Q (.ref p) H1
theorem zNR:OpR X (binaryOp .Add) (rCatT2 X.K):=by
 intro pins s σ H x y v u Q I rx ry h
 obtain ⟨a,b,xs,ys,rfl,rfl,ha,hb,hz,q⟩:=h
 by_cases hx:xs=[]
 ·subst hx
  cases rx
  cases ry
  obtain ⟨its,r1,p1,_⟩:=I.tuple (SqT.of ha)
  obtain ⟨its2,r2,p2,_⟩:=I.tuple (SqT.of hb)
  have e:=(r1.nil_iff).mpr rfl
  subst e
  obtain ⟨⟨cls,dd,data,sl⟩,ho,hc,n,hd⟩:=id p1
  obtain ⟨⟨cls2,dd2,data2,sl2⟩,ho2,hc2,n2,hd2⟩:=id p2
  simp only at hc hd hc2 hd2
  subst hc hd hc2 hd2
  exact concat_meets ⟨_,ho,rfl⟩ ⟨_,ho2,rfl⟩ noFill_tuple_add seq_tuple_add PySem.F.slot_tuple_add PySem.F.entry_tuple_add (PySem.F.args_tuple_add_2 _ _)
   (tuple_addW0 a b ([]).toArray its2.toArray n n2 dd dd2 sl sl2 (by simp)) ⟨ho,ho2,⟨.ref b,H,I,rfl,q b H (Same.refl H) hb⟩⟩
 ·refine zQL pins s σ H (.ref a) (.ref b) v u Q I rx ry ⟨a,b,xs,ys,rfl,rfl,SqT.of ha,SqT.of hb,hx,hz,fun e=>?_,fun _ p hp=>q p _ (zFH hp _) zA4⟩
  subst e
  exact q a H (Same.refl H) (by rw [List.append_nil]; exact ha)
theorem zJU (xs:List V) (lo hi:Option Int) (h:HT.sIx xs.length 0 lo=0∧HT.sIx xs.length xs.length hi=xs.length):cutV xs lo hi=xs:=by
 unfold cutV
 rw [h.1,h.2,List.drop_zero,Nat.sub_zero,List.take_length]
theorem zCA {prog:Program}{w:World}{A:Around}{E:Value→Shared→Prop}{s:Shared}{t sl:Addr}{items:Array Value}{vl vu:Value}{lo hi:Option Int}{Q:Value→Shared→Prop} (ht:IsTup s.heap t items) (hs:s.heap.IsSliceOf sl vl vu .none) (pl:IsPart vl lo) (pu:IsPart vu hi)
  (hw:HT.sIx items.size 0 lo=0∧HT.sIx items.size items.size hi=items.size)
  (h:Q (.ref t) s):wpAny (model prog w) A (getItem (.ref t) (.ref sl)) Q E s:=by
 obtain ⟨os,hos,hcs,hds⟩:=id hs
 have hTs:s.TypeIs (.ref sl) "slice":=⟨os,hos,hcs⟩
 unfold getItem
 try with_reducible refine wpAny_holding ?_
 refine wpAny_bind (wpAny_sequenceKey ht.typeIs (by decide) ?_)
 refine wpAny_bind (wpAny_callSpecial?_slot ht.typeIs PyProof.Rows.slot_tuple_getitem
  (wpAny_call_entry PyProof.Rows.slot_tuple_getitem ht.typeIs entry_tuple_getitem ?_ (args_tuple_getitem _ _)))
 show wpAny _ _ (Builtin.Tuple.tupleItemsOf (.ref t) >>= _) _ _ s
 refine wpAny_bind (tupleItemsOf_ ht ?_)
 refine wpAny_bind (wpAny_typeOf hTs ?_)
 refine wpAny_bind (HT.sliceApplied_gen hs pl pu ?_)
 have hyes:(((HT.sIx items.size 0 lo):Int) == 0&&(1:Int) == 1&&(HT.sIx items.size items.size hi - HT.sIx items.size 0 lo) == items.size)=true:=by
  rw [hw.1,hw.2]
  simp
 show wpAny _ _ (if (((HT.sIx items.size 0 lo):Int) == 0&&1 == 1&&(HT.sIx items.size items.size hi - HT.sIx items.size 0 lo) == items.size)=true then _ else _) _ _ s
 rw [if_pos hyes]
 refine wpAny_bind (wpAny_bind (wpAny_typeOf ht.typeIs (wpAny_pure ?_)))
 exact wpAny_bind (wpAny_rule (wpAny_pure ⟨_,rfl,wpAny_pure h⟩))
noncomputable def rSlT2 (K:W.Frag):V→Option Int→Option Int→Hp→VK→Prop:=fun x lo hi H Q=>∃ a xs,x=.ref a∧H a=some (.tup xs)∧∀ p H1,Same H H1→H1 p=some (.tup (cutV xs lo hi))→Q (.ref p) H1
theorem zPU:SlR X (rSlT2 X.K):=by
 intro pins s σ H x v vl vu lo hi sl Q I rx hs pl pu h
 obtain ⟨a,xs,rfl,hx,q⟩:=h
 by_cases hw:HT.sIx xs.length 0 lo=0∧HT.sIx xs.length xs.length hi=xs.length
 ·cases rx
  obtain ⟨its,r,ht,hz⟩:=I.tuple (SqT.of hx)
  have hlen:its.toArray.size=xs.length:=by exact r.length.symm
  refine ⟨"tuple",_,PyProof.Rows.slot_tuple_getitem.lookup,ht.typeIs,?_⟩
  exact zCA ht hs pl pu (by rw [hlen]; exact hw) ⟨.ref a,H,I,rfl,q a H (Same.refl H) (by rw [zJU xs lo hi hw]; exact hx)⟩
 ·exact sl_tup pins s σ H (.ref a) v vl vu lo hi sl Q I rx hs pl pu ⟨a,xs,rfl,SqT.of hx,hw,fun p hp=>q p _ (zFH hp _) zA4⟩
end
section
variable {X:Cx}{a b c d:Expr}{ta tb tc td:TE}{pos:Pos}
theorem zKU {op op' op2:CmpOp}{r r' r2:R2} (ho:OpR X (compareOp op) r) (ho':OpR X (compareOp op') r') (ho2:OpR X (compareOp op2) r2) (ha:PE X a ta) (hb:PE X b tb) (hc:PE X c tc) (hd:PE X d td)
  (hm:lastMarks [op,op',op2] [b,c,d]=false:=by with_unfolding_all rfl):PT X (.Compare a [op,op',op2] [b,c,d] pos) (fun σ H Q=>ta σ H fun x H1=>tb σ H1 fun y H2=>r x y H2 fun z H3=>∃ k,z=.bl k ∧
   (if k=true then tc σ H3 fun w' H4=>r' y w' H4 fun z2 H5=>∃ k2,z2=.bl k2∧(if k2=true then td σ H5 fun v' H6=>r2 w' v' H6 fun z3 H7=>∃ k3,z3=.bl k3∧Q k3 H7 else Q false H5) else Q false H3)):=by
 intro pins s σ H Q I h
 refine isTrue_chain (thn (ha pins s σ H _ I h) fun v s1 ⟨x,H1,I1,r1,q1⟩=>test_link (thn (hb pins s1 σ H1 _ I1 q1) fun u s2 ⟨y,H2,I2,r2,q2⟩ =>
  thn (ho pins s2 σ H2 x y v u _ I2 r1 r2 q2) fun d s3 ⟨z,H3,I3,r3,k,e,q3⟩=>?_)) hm
 subst e
 cases r3
 refine wpAny_truthy_bool ?_
 cases k with
 | false=>exact ite_ff ⟨H3,I3,q3⟩
 | true =>
  refine ite_tt (test_link (thn (hc pins s3 σ H3 _ I3 q3) fun w' s4 ⟨z',H4,I4,r4,q4⟩=>thn (ho' pins s4 σ H4 y z' u w' _ I4 r2 r4 q4) fun d' s5 ⟨z2,H5,I5,r5,k2,e2,q5⟩=>?_))
  subst e2
  cases r5
  refine wpAny_truthy_bool ?_
  cases k2 with
  | false=>exact ite_ff ⟨H5,I5,q5⟩
  | true =>
   refine ite_tt (test_last (thn (hd pins s5 σ H5 _ I5 q5) fun w2 s6 ⟨z6,H6,I6,r6,q6⟩=>thn (ho2 pins s6 σ H6 z' z6 w' w2 _ I6 r4 r6 q6) fun d2 s7 ⟨z7,H7,I7,r7,k3,e3,q7⟩=>?_))
   subst e3
   cases r7
   exact wpAny_truthy_bool ⟨H7,I7,q7⟩
end
def TK (K:W.Frag) (H H':Hp):Prop:=∀ p xs,SqT K H p xs→SqT K H' p xs
theorem TK.refl (K:W.Frag) (H:Hp):TK K H H:=fun _ _ h=>h
theorem TK.trans {K:W.Frag}{H H1 H2:Hp} (a:TK K H H1) (b:TK K H1 H2):TK K H H2:=fun p xs h=>b p xs (a p xs h)
theorem dT {p:Prop} [Decidable p] (h:p):decide p=true:=decide_eq_true h
theorem bt_len:bootBuiltins "len"=some (.builtin "len"):=by decide +kernel
theorem zOV:bootBuiltins "range"=some (.type "range"):=by decide +kernel
theorem zIt:bootBuiltins "list"=some (.type "list"):=by decide +kernel
theorem zJo:bootBuiltins "tuple"=some (.type "tuple"):=by decide +kernel
theorem bt_min:bootBuiltins "min"=some (.builtin "min"):=by decide +kernel
theorem bt_max:bootBuiltins "max"=some (.builtin "max"):=by decide +kernel
theorem bt_zip:bootBuiltins "zip"=some (.type "zip"):=by decide +kernel
theorem zGb:bootBuiltins "isinstance"=some (.builtin "isinstance"):=by decide +kernel
theorem bt_all:bootBuiltins "all"=some (.builtin "all"):=by decide +kernel
theorem bt_any:bootBuiltins "any"=some (.builtin "any"):=by decide +kernel
theorem zPy:bootBuiltins "int"=some (.type "int"):=by decide +kernel
theorem bt_bool:bootBuiltins "bool"=some (.type "bool"):=by decide +kernel
theorem zHo:bootBuiltins "enumerate"=some (.type "enumerate"):=by decide +kernel
theorem zPx:bootBuiltins "str"=some (.type "str"):=by decide +kernel
structure C4 where
 a:Int
 b:Int
 k:Int
 o:Int
def C4.ok (sw pl:Int) (c:C4):Prop:=0≤c.a∧c.a<c.b∧c.b<pl∧0≤c.k∧c.k<sw∧0≤c.o∧c.o<2
inductive Ty2 (K:W.Frag) (H:Hp):V→String→Prop where
 | non:Ty2 K H .non "NoneType"
 | bl (x:Bool):Ty2 K H (.bl x) "bool"
 | int (i:Int):Ty2 K H (.int i) "int"
 | str (x:Str):Ty2 K H (.str x) "str"
 | tup {a:Addr}{xs:List V} (e:SqT K H a xs):Ty2 K H (.ref a) "tuple"
 | lst {a:Addr}{xs:List V} (e:SqL K H a xs):Ty2 K H (.ref a) "list"
 | dk {a:Addr}{kvs:List (Key × V)} (e:H a=some (.dK kvs)):Ty2 K H (.ref a) "dict"
noncomputable def kOf (t T:String):Bool:=t == T||(t == "bool"&&T == "int")
section
variable {X:Cx}
theorem zJK {A:Around}{E:Value→Shared→Prop}{pins:List (Addr × Obj)}{σ:St}{H:Hp}{s:Shared}{Q:Value→Shared→Prop}{c:Value}{b:Bool}{x:V}{u:Value}{t:String} (I:Inv X pins σ H s) (rx:RelV x u) (ty:Ty2 X.K H x t) (e:W.kitOne X.K (.type t) c=some b) (h:∀ tk,Q (.bool b) { s with toks:=tk }) :
  wpAny (model X.prog X.w) A (call (.builtin "isinstance") [u,c]) Q E s:=by
 cases ty with
 | non=>cases (rx); exact W.kia_one W.kitx_none I.kIn True.intro e (fun z=>nomatch z) h
 | bl y=>cases (rx); exact W.kia_one W.kitx_bool I.kIn True.intro e (fun z=>nomatch z) h
 | int i=>obtain ⟨t,q⟩:=(rx); cases q; exact W.kia_one W.kitx_int I.kIn True.intro e (fun z=>nomatch z) h
 | str y=>obtain ⟨t,q⟩:=(rx); cases q; exact W.kia_one W.kitx_str I.kIn True.intro e (fun z=>nomatch z) h
 | @lst a xs ea =>
  cases (show u=Value.ref a from rx)
  obtain ⟨its,_,pl,_⟩:=I.list ea
  obtain ⟨o,h1,h2,_⟩:=pl.isList
  exact W.kia_one W.kitx_list I.kIn ⟨o,h1,h2⟩ e (fun z=>nomatch z) h
 | @tup a xs ea =>
  cases (show u=Value.ref a from rx)
  obtain ⟨its,_,pl,_⟩:=I.tuple ea
  obtain ⟨o,h1,h2,_⟩:=pl
  exact W.kia_one W.kitx_tuple I.kIn ⟨o,h1,h2⟩ e (fun z=>nomatch z) h
 | @dk a kvs ea =>
  cases (show u=Value.ref a from rx)
  obtain ⟨_,_,vs,_,p⟩:=(I.hok a _ ea)
  obtain ⟨o,es,ep,h1,h2,_⟩:=p
  exact W.kia_one W.kitx_dict I.kIn ⟨o,h1,h2.1⟩ e (fun z=>nomatch z) h
theorem zHm:zAw X (.builtin "isinstance") (fun vs H Q=>∃ x t T b,vs=[x,.ty T]∧Ty2 X.K H x t∧W.kitOne X.K (.type t) (.type T)=some b∧Q (.bl b) H):=by
 intro pins s σ H xs us Q I r h
 obtain ⟨x,t,T,b,rfl,ty,e,q⟩:=h
 obtain ⟨u,v,rfl,ru,rv⟩:=zJp r
 cases rv
 exact zJK I ru ty e fun tk=>⟨.bl b,H,I.tok tk,rfl,q⟩
end
theorem zOh (K:W.Frag):(∀ t∈["NoneType","bool","int","str","tuple","list","dict"],∀ T∈["bool","int","tuple","list","str","dict"],W.kitOne K (.type t) (.type T)=some (kOf t T)):=by
 intro t ht T hT
 simp only [List.mem_cons,List.not_mem_nil,or_false] at ht hT
 rcases ht with rfl | rfl | rfl | rfl | rfl | rfl | rfl <;> rcases hT with rfl | rfl | rfl | rfl | rfl | rfl <;> rfl
mutual
inductive Rp (K:W.Frag) (H:Hp) (a0:Addr→Prop):V→PyData→Prop where
 | non:Rp K H a0 .non .none
 | bl (b:Bool):Rp K H a0 (.bl b) (.bool b)
 | int (i:Int):Rp K H a0 (.int i) (.int i)
 | str (x:Str):Rp K H a0 (.str x) (.str x)
 | tup {p:Addr}{xs:List V}{ds:List PyData} (h:SqT K H p xs) (r:RpL K H a0 xs ds):Rp K H a0 (.ref p) (.tuple ds)
 | lst {p:Addr}{xs:List V}{ds:List PyData} (n:a0 p) (h:SqL K H p xs) (r:RpL K H a0 xs ds):Rp K H a0 (.ref p) (.list ds)
inductive RpL (K:W.Frag) (H:Hp) (a0:Addr→Prop):List V→List PyData→Prop where
 | nil:RpL K H a0 [] []
 | cons {x:V}{xs:List V}{d:PyData}{ds:List PyData} (h:Rp K H a0 x d) (t:RpL K H a0 xs ds):RpL K H a0 (x::xs) (d::ds)
end
open PySem PySem.Spec PyProof.Rows
section
variable {prog:Program}{w:World}{A:Around}{E:Value→Shared→Prop}{s:Shared}
theorem zGo {j t:Addr}{n:Nat}{vs:Array Value}{v:Value}{Q:Value→Shared→Prop} (hj:s.heap.IsTupleIter j t n) (ht:s.heap.IsTuple t vs) (hv:vs[n]?=some v)
  (q:∀ h',h'.IsTupleIter j t (n+1)→Heap.SameBut j s.heap h'→Q v { s with heap:=h' }):wpAny (model prog w) A (Builtin.SmallTypes.nextOf (.ref j)) Q E s:=by
 obtain ⟨oj,e1,c1,d1⟩:=id hj
 obtain ⟨ot,e2,_,m,d2⟩:=ht
 refine wpAny_bind (wpAny_callSpecial?_slot hj.typeIs F.slot_tuple_iterator_next (wpAny_call_entry F.slot_tuple_iterator_next hj.typeIs F.entry_tuple_iterator_next ?_ (F.args_tuple_iterator_next_1 _)))
 show wpAny _ _ (field (.ref j) 0 >>= _) _ _ s
 refine wpAny_bind (wpAny_field e1 d1 (x:=.ref t) rfl ?_)
 refine wpAny_bind (wpAny_field e1 d1 (x:=.int n 0) rfl ?_)
 refine wpAny_bind (wpAny_seqItems e2 d2 ?_)
 simp only [hv,Int.toNat_natCast]
 refine wpAny_bind (wpAny_setField e1 d1 (by simp) (wpAny_pure ⟨v,rfl,wpAny_pure (q _ ?_ (Heap.SameBut.update ..))⟩))
 refine ⟨_,Heap.get?_update_self _ e1 (Obj.isFreed_of_fields (Obj.data_mapFields d1 _)),(Obj.cls_mapFields ..).trans c1,?_⟩
 rw [Obj.data_mapFields d1]
 simp [rawInt]
theorem zHF {j t:Addr}{n:Nat}{vs:Array Value}{Q:Value→Shared→Prop} (hh:A.handled=none) (hj:s.heap.IsTupleIter j t n) (ht:s.heap.IsTuple t vs) (hv:vs[n]?=none)
  (q:∀ h' e,Heap.ExtBut j s.heap h'→(∃ o,h'.get? e=some o∧o.cls=.type "StopIteration")→E (.ref e) { s with heap:=h' }):wpAny (model prog w) A (Builtin.SmallTypes.nextOf (.ref j)) Q E s:=by
 obtain ⟨oj,e1,c1,d1⟩:=id hj
 obtain ⟨ot,e2,_,m,d2⟩:=ht
 refine wpAny_bind (wpAny_callSpecial?_slot hj.typeIs F.slot_tuple_iterator_next (wpAny_call_entry F.slot_tuple_iterator_next hj.typeIs F.entry_tuple_iterator_next ?_ (F.args_tuple_iterator_next_1 _)))
 show wpAny _ _ (field (.ref j) 0 >>= _) _ _ s
 refine wpAny_bind (wpAny_field e1 d1 (x:=.ref t) rfl ?_)
 refine wpAny_bind (wpAny_field e1 d1 (x:=.int n 0) rfl ?_)
 refine wpAny_bind (wpAny_seqItems e2 d2 ?_)
 simp only [hv,Int.toNat_natCast]
 refine wpAny_bind (wpAny_rule (wpAny_bind (wpAny_setField e1 d1 (by simp) ?_)))
 refine wpAny_bind ?_
 refine wpAny_bind (m:=firstArgMember _ _) (wpAny_of_eq (a:=Value.none) (by first | (simp only [firstArgMember]; rfl) | rfl) ?_)
 refine wpAny_newObj_type ?_ (by size_fits)
 refine wpAny_bind (wpAny_handled ?_)
 first | rw [hh] | rw [show A.in1.handled=none from hh]
 refine wpAny_bind (wpAny_pure (wpAny_throw ?_))
 exact q _ _ (((Heap.SameBut.update ..).extBut.push _).push _) ⟨_,Heap.get?_push_size _ rfl,rfl⟩
end
theorem zJT {prog:Program}{w:World}{A:Around} (hh:A.handled=none) (j t:Addr) (hne:t≠j) (vs:Array Value) :
  Draws prog w A j [j,t] vs.size (fun i v=>vs[i]?=some v) (fun i h=>h.IsTupleIter j t i∧h.IsTuple t vs) where
 live:=fun _ _ st=>let ⟨o,ho,_⟩:=st.1; ⟨o,ho⟩
 frame:=fun _ _ _ st kk=>⟨st.1.at fun o e=>kk j (by simp) o e,let ⟨o,ho,r⟩:=st.2; ⟨o,kk t (by simp) o ho,r⟩⟩
 item:=fun i s Q E hi st hQ=>zGo st.1 st.2 (v:=vs[i]) (by simp) fun h' h1 h2=>hQ _ h' s.toks (by simp) ⟨h1,st.2.extBut h2.extBut hne⟩ h2
 done:=fun s Q E st hE=>zHF hh st.1 st.2 (by simp) hE
theorem zOK (l:Addr) (items:Array Value) (n:Nat) (dct:Option Addr) (sl:Array (Option Value)) :
  Meets (Builtin.«enumerate.__new__» ⟨[.type "enumerate",.ref l],[]⟩) (fun _ R s=>s.heap.get? l=some { cls:=.type "tuple",dict:=dct,data:=.seq items n,slots:=sl } ∧
   R (.ok (.ret (.ref (s.heap.push { cls:=.type "tuple_iterator",data:=.fields #[.ref l,.int 0 0] }).objs.size)))
    { s with heap:=(s.heap.push { cls:=.type "tuple_iterator",data:=.fields #[.ref l,.int 0 0] }).push { cls:=.type "enumerate",data:=.fields #[.none,.bool false,.ref s.heap.objs.size,rawInt 0,.none,.none] } }) :=
 .of_wp fun prog w A R s h=>by
  obtain ⟨hp,g,d,tk,os⟩:=s; obtain ⟨hl,h⟩:=h
  have hsub:=sub_enumerate
  have hT:Heap.IsTuple (Shared.heap ⟨hp,g,d,tk,os⟩) l items:=⟨_,hl,rfl,n,rfl⟩
  wp_walk using AutoSeq1.wpAny_loadPart' hl
  refine wpAny_stack_any fun st=>wpAny_pure ?_
  split
  ·rename_i c _ _ _ _ _
   cases (c == Value.type "enumerate") <;> (wp_walk using AutoSeq1.wpAny_loadPart' hl,wpAny_pyIter_tuple hT; exact ⟨_,rfl,h⟩)
  ·wp_walk using AutoSeq1.wpAny_loadPart' hl,wpAny_pyIter_tuple hT
   exact ⟨_,rfl,h⟩
open PySem PySem.Spec PyProof.Rows
section
variable {X:Cx}{pins:List (Addr × Obj)}{σ:St}{H:Hp}{s:Shared}
mutual
theorem Inv.reads (I:Inv X pins σ H s) {a0:Addr→Prop}:∀ {x:V}{d:PyData}{u:Value},Rp X.K H a0 x d→RelV x u→∃ as,Reads s.heap u d as
 | _,_,u,.non,r=>by cases (r); exact ⟨_,.none⟩
 | _,_,u,.bl b,r=>by cases (r); exact ⟨_,.bool b⟩
 | _,_,u,.int i,r=>by obtain ⟨t,q⟩:=(r); cases q; exact ⟨_,.int i t⟩
 | _,_,u,.str y,r=>by obtain ⟨t,q⟩:=(r); cases q; exact ⟨_,.str y t⟩
 | _,_,u,.tup h rr,r=>by
  cases (r)
  obtain ⟨its,rv,⟨o,h1,h2,n,h3⟩,_⟩:=I.tuple h
  obtain ⟨as,ra⟩:=I.readsL rr rv
  exact ⟨_,.tuple h1 h2 h3 (by simpa using ra)⟩
 | _,_,u,.lst _ h rr,r=>by
  cases (r)
  obtain ⟨its,rv,pl,_⟩:=I.list h
  obtain ⟨o,h1,h2,n,h3⟩:=pl.isList
  obtain ⟨as,ra⟩:=I.readsL rr rv
  exact ⟨_,.list h1 h2 h3 (by simpa using ra)⟩
theorem Inv.readsL (I:Inv X pins σ H s) {a0:Addr→Prop}:∀ {xs:List V}{ds:List PyData}{us:List Value},RpL X.K H a0 xs ds→Vals xs us→∃ as,ReadsAll s.heap us ds as
 | _,_,_,.nil,.nil=>⟨_,.nil⟩
 | _,_,_,.cons h t,.cons r rr=>by
  obtain ⟨a1,q1⟩:=I.reads h r
  obtain ⟨a2,q2⟩:=I.readsL t rr
  exact ⟨_,.cons q1 q2⟩
end
def okD (d:PyData):Prop:=d.canLay0=true∧d.depth≤60
theorem op_eqD (hu:X.A.units+64<cLine):OpR X (compareOp .Eq) (fun x y H Q=>∃ (N N':Addr→Prop) (da db:PyData),Rp X.K H N x da∧Rp X.K H N' y db∧okD da∧okD db∧Q (.bl (PyData.eqv da db)) H):=by
 intro pins s σ H x y v u Q I rx ry h
 obtain ⟨N,N',da,db,hx,hy,o1,o2,q⟩:=h
 obtain ⟨as,ra⟩:=I.reads hx rx
 obtain ⟨bs,rb⟩:=I.reads hy ry
 exact SeqAt.compareEq_reads ra rb o1.1 o2.1 (by have:=o1.2; lia) ⟨.bl _,H,I,rfl,q⟩
theorem op_neD (hu:X.A.units+64<cLine):OpR X (compareOp .NotEq) (fun x y H Q=>∃ (N N':Addr→Prop) (da db:PyData),Rp X.K H N x da∧Rp X.K H N' y db∧okD da∧okD db∧Q (.bl (!PyData.eqv da db)) H):=by
 intro pins s σ H x y v u Q I rx ry h
 obtain ⟨N,N',da,db,hx,hy,o1,o2,q⟩:=h
 obtain ⟨as,ra⟩:=I.reads hx rx
 obtain ⟨bs,rb⟩:=I.reads hy ry
 exact SeqAt.compareNe_reads ra rb o1.1 o2.1 (by have:=o1.2; lia) ⟨.bl _,H,I,rfl,q⟩
end
open PySem PySem.Spec PyProof.Rows
def SqX (b:Bool) (K:W.Frag) (H:Hp) (a:Addr) (xs:List V):Prop:=match b with
 | true=>SqT K H a xs
 | false=>SqL K H a xs
def IsX (b:Bool) (h:Heap) (a:Addr) (vs:Array Value):Prop:=match b with
 | true=>h.IsTuple a vs
 | false=>h.IsList a vs
def ItX (b:Bool) (h:Heap) (j a:Addr) (i:Nat):Prop:=match b with
 | true=>h.IsTupleIter j a i
 | false=>h.IsListIter j a i
theorem ItX.obj {b:Bool}{h:Heap}{j a:Addr}{i:Nat} (x:ItX b h j a i):∃ o,h.get? j=some o∧∀ v,o.data≠.cell v:=by
 cases b with
 | true=>obtain ⟨o,h1,_,h2⟩:=x; exact ⟨o,h1,fun v q=>by rw [h2] at q; cases q⟩
 | false=>obtain ⟨o,h1,_,h2⟩:=x; exact ⟨o,h1,fun v q=>by rw [h2] at q; cases q⟩
theorem ItX.keep {b:Bool}{h h':Heap}{j a:Addr}{i:Nat} (x:ItX b h j a i) (e:∀ o,h.get? j=some o→h'.get? j=some o):ItX b h' j a i:=by
 cases b with
 | true=>exact Heap.IsTupleIter.at x e
 | false=>exact Heap.IsListIter.at x e
theorem IsX.lt {b:Bool}{h:Heap}{a:Addr}{vs:Array Value} (x:IsX b h a vs):a<h.objs.size:=by
 cases b with
 | true=>obtain ⟨_,e,_⟩:=x; exact Heap.lt_size e
 | false=>obtain ⟨_,e,_⟩:=x; exact Heap.lt_size e
theorem zFx {prog:Program}{w:World}{A:Around} (b:Bool) (hh:A.handled=none) (j t:Addr) (hne:t≠j) (vs:Array Value) :
  Draws prog w A j [j,t] vs.size (fun i v=>vs[i]?=some v) (fun i h=>ItX b h j t i∧IsX b h t vs):=by
 cases b with
 | true=>exact zJT hh j t hne vs
 | false=>exact Draws.list hh j t hne vs
section
variable {X:Cx}{pins:List (Addr × Obj)}{σ:St}{H:Hp}{s:Shared}
theorem Inv.sqX (I:Inv X pins σ H s) {b:Bool}{a:Addr}{xs:List V} (h:SqX b X.K H a xs):∃ its,Vals xs its∧IsX b s.heap a its.toArray:=by
 cases b with
 | true=>obtain ⟨its,r,p,_⟩:=I.tuple h; exact ⟨its,r,p⟩
 | false=>obtain ⟨its,r,p,_⟩:=I.list h; exact ⟨its,r,p.isList⟩
theorem Inv.sqX_inj (I:Inv X pins σ H s) {b:Bool}{a:Addr}{xs ys:List V} (h:SqX b X.K H a xs) (h':SqX b X.K H a ys):xs=ys:=by
 cases b with
 | true=>exact I.tuple_inj h h'
 | false=>exact I.list_inj h h'
end
noncomputable def IteX (b:Bool) (K:W.Frag) (a:Addr):It :=
  ⟨fun i H=>∃ xs x,SqX b K H a xs∧xs[i]?=some x,
   fun i H v H'=>∃ T,H T=none∧v=.ref T∧∀ xs x,SqX b K H a xs→xs[i]?=some x→H'=upd H T (.tup [.int i,x]),
   fun i H=>∃ xs,SqX b K H a xs∧i=xs.length⟩
theorem allN {P:Addr→Prop}:∀ x∈([]:List Addr),P x:=fun _ h=>by cases h
theorem allC {P:Addr→Prop}{a:Addr}{l:List Addr} (h:P a) (t:∀ x∈l,P x):∀ x∈a::l,P x:=by grind
theorem zPp {X:Cx}{pins:List (Addr × Obj)}{H:Hp}{T:Addr}{o:HO}{ws:List Addr} (h:∀ b∈ws,FpOk X pins H b) (n:∀ b∈ws,b≠T):∀ b∈ws,FpOk X pins (upd H T o) b:=fun b hb=>⟨by rw [zA5 (n b hb)]; exact (h b hb).1,(h b hb).2⟩
structure EsX (b:Bool) (e it a:Addr) (i:Nat) (h:Heap):Prop where
 a1:∃ old,IsEnum h e it (i:Nat) old
 a2:ItX b h it a i
theorem EsX.obj {b:Bool}{e it a:Addr}{i:Nat}{h:Heap} (st:EsX b e it a i h):∀ c∈[e,it],∃ o,h.get? c=some o∧∀ v,o.data≠.cell v:=by
 obtain ⟨_,a1⟩:=st.a1
 exact allC ⟨_,a1,fun v q=>by cases q⟩ (allC st.a2.obj allN)
theorem EsX.ne {b:Bool}{e it a:Addr}{i:Nat}{h:Heap} (st:EsX b e it a i h) {T:Addr} (hT:h.objs.size≤T):∀ c∈[e,it],c≠T:=fun c hc=>by
 obtain ⟨o,z,_⟩:=st.obj c hc
 exact Nat.ne_of_lt (Nat.lt_of_lt_of_le (Heap.lt_size z) hT)
theorem zyE {b:Bool}{a:Addr}{i:Nat}{X:Cx}{pins:List (Addr × Obj)}{σ:St}{H:Hp}{s:Shared} (I:Inv X pins σ H s) {xs:List V}{x:V} (q1:SqX b X.K H a xs) (ex:xs[i]?=some x) {T:Addr} (xs':List V) (x':V) (s1:SqX b X.K H a xs') (t1:xs'[i]?=some x'):upd H T (.tup [.int i,x])=upd H T (.tup [.int i,x']):=by
 have h1:=I.sqX_inj q1 s1
 subst h1
 rw [ex] at t1
 cases t1; rfl
theorem zvE {t1:List Value}{u1:Value}{i:Nat}{vals:Array Value} (e1:t1[i]?=some u1) (hv:∃ tt v,t1.toArray[i]?=some v∧vals=#[.int (i:Nat) tt,v]):∃ tt,vals=#[.int (i:Nat) tt,u1]:=by simp_all
theorem zF9 {P:Program}{w:World}{K:PySem.W.Frag}{elts:List Expr}{k:Nat}{pos:Pos} (b:Bool) (e it a:Addr) (hei:e≠it) (hea:e≠a) (hai:a≠it) :
  Turn P w K (.Tuple elts k pos) (IteX b K a) [e,it] e (EsX b e it a) where
 mem:=by simp
 obj:=fun i h st=>st.obj
 keep:=fun i h h' ⟨⟨old,h1⟩,h2⟩ kk=>⟨⟨old,kk e (by simp) _ h1⟩,h2.keep fun o z=>kk it (by simp) o z⟩
 item:=by
  intro X hP hw hK hc i pins s σ H E I hf st hg
  subst hP hw hK
  obtain ⟨xs,x,q1,ex⟩:=hg
  obtain ⟨its1,r1,p1⟩:=I.sqX q1
  obtain ⟨u1,e1,ru1⟩:=r1.get ex
  have D:=zFx (prog:=X.prog) (w:=X.w) (A:=X.A.in1) b (I.ok.hd hc) it a hai its1.toArray
  have W:=WalksT.enumerateD D e hei (by simp [hei,hea]) (by simp)
  have hl1:=(List.getElem?_eq_some_iff.mp e1).1
  refine W.item i s _ _ (by omega) ⟨st.1,st.2,p1⟩ fun T vals h' tk hv hT hIs hM kk=>?_
  obtain ⟨tt,hvv⟩:=zvE e1 hv
  subst hvv
  have nT:=st.ne hT
  refine ⟨_,rfl,W.go _ _ _ i T { s with heap:=h',toks:=tk } _ _ hM fun h2 st2 kk2=>?_⟩
  have I1:Inv X pins σ (upd H T (.tup [.int i,x])) { s with heap:=h',toks:=tk }:=I.yields hf kk hT (.cons ⟨tt,rfl⟩ (.cons ru1 .nil)) (by show 2≤sizeLine; decide) hIs
  exact ⟨.ref T,_,I1.turnedL (zPp hf nT) kk2,rfl,⟨T,I.hok.fresh hT,rfl,zyE I q1 ex⟩,⟨st2.1,st2.2.1⟩,fun c hc=>by rw [zA5 (nT c hc)]; exact (hf c hc).1⟩
 done:=by
  intro X hP hw hK hc i pins s σ H E I hf st hg
  subst hP hw hK
  obtain ⟨xs,q1,ei⟩:=hg
  obtain ⟨its1,r1,p1⟩:=I.sqX q1
  have D:=zFx (prog:=X.prog) (w:=X.w) (A:=X.A.in1) b (I.ok.hd hc) it a hai its1.toArray
  have W:=WalksT.enumerateD D e hei (by simp [hei,hea]) (by simp)
  have en:i=its1.toArray.size:=by rw [List.size_toArray,← r1.length]; exact ei
  refine W.done s _ _ (by rw [← en]; exact ⟨st.1,st.2,p1⟩) fun h' tk kk=>?_
  exact ⟨rfl,I.turnedL hf kk⟩
 self:=fun _ _ _ _ _ st h=>let ⟨⟨_,z⟩,_⟩:=st; wpAny_pyIter_enum z h
section
variable {X:Cx}
noncomputable def zPo (K:W.Frag) (ta:TA):TI:=fun σ H R=>ta σ H fun vs H1=>∃ a,vs=[.ref a]∧((∃ xs,SqT K H1 a xs)∧R (IteX true K a) H1∨(∃ xs,SqL K H1 a xs)∧R (IteX false K a) H1)
theorem zNG {elts:List Expr}{k:Nat}{tpos:Pos}{a:Expr}{ta:TA}{p pos:Pos} (hg:Gl X "enumerate") (hm:X.mg "enumerate"=none) (ha:PA X [a] ta) (hs:starEach [a] X.env=[(false,eval a X.env)]:=by rfl) :
  PI X (.Tuple elts k tpos) (.Call (.Name "enumerate" p) [a] [] pos) (zPo X.K ta):=by
 intro pins s σ H R I h
 refine Call_ (zE6 I hg hm zHo (PyProof.Rows.callWith_type1 (thn (ha pos pins s σ H _ I h) fun us s1 ⟨vs,H1,I1,r1,q1⟩=>?_) (by rw [hs]; rfl) (by rfl)))
 obtain ⟨t,e,q⟩:=q1
 subst e
 rcases q with ⟨⟨xs,h1⟩,q⟩ | ⟨⟨xs,h1⟩,q⟩
 ·cases r1 with
  | cons r rr =>
   cases rr
   cases r
   obtain ⟨its1,v1,p1,z1⟩:=I1.tuple h1
   obtain ⟨⟨c,dct,dt,sl⟩,hl,hc,n,hd⟩:=id p1
   replace hd:dt=.seq its1.toArray n:=hd
   subst hc hd
   have hlt:=Heap.lt_size hl
   refine callType_new PySem.F.called_enumerate (by decide) (PySem.F.typeCall_enumerate_1 _) (PySem.F.newCall_enumerate_1 _) (fun obj=>PySem.F.args_object_init_2 obj _) PySem.F.entry_enumerate_new (zOK t its1.toArray n dct sl) ⟨hl,?_⟩
   have hz:(s1.heap.push { cls:=.type "tuple_iterator",data:=.fields #[.ref t,.int 0 0] }).objs.size=s1.heap.objs.size+1:=Heap.size_push ..
   show _∧_
   rw [hz]
   have he:=by
    have z:=Heap.get?_push_size (s1.heap.push { cls:=.type "tuple_iterator",data:=.fields #[.ref t,.int 0 0] }) (o:={ cls:=.type "enumerate",data:=.fields #[.none,.bool false,.ref s1.heap.objs.size,rawInt 0,.none,.none] }) rfl
    rw [hz] at z
    exact z
   refine ⟨⟨_,he,rfl⟩,?_⟩
   refine wpAny_pyIter_enum he ?_
   have kp:∀ b o,s1.heap.get? b=some o→((s1.heap.push { cls:=.type "tuple_iterator",data:=.fields #[.ref t,.int 0 0] }).push { cls:=.type "enumerate",data:=.fields #[.none,.bool false,.ref s1.heap.objs.size,rawInt 0,.none,.none] }).get? b=some o:=fun b o x=>Heap.get?_push_of_some _ (Heap.get?_push_of_some _ x)
   refine ⟨_,_,_,_,H1,rfl,I1.kept (t':=s1.toks) kp,zF9 true (s1.heap.objs.size+1) s1.heap.objs.size t (Nat.succ_ne_self _) (Nat.ne_of_gt (Nat.lt_succ_of_lt hlt)) (Nat.ne_of_lt hlt),⟨⟨_,he⟩,⟨_,Heap.get?_push_of_some _ (Heap.get?_push_size _ rfl),rfl,rfl⟩⟩,fun b hb=>?_,q⟩
   have hle:s1.heap.objs.size≤b:=by
    simp only [List.mem_cons,List.not_mem_nil,or_false] at hb
    rcases hb with rfl | rfl
    ·exact Nat.le_succ _
    ·exact Nat.le_refl _
   exact I1.fpOk hle (I1.hok.fresh hle)
 ·cases r1 with
  | cons r rr =>
   cases rr
   cases r
   obtain ⟨its1,v1,p1,z1⟩:=I1.list h1
   have hlt:t<s1.heap.objs.size:=by obtain ⟨_,e,_⟩:=p1.isList; exact Heap.lt_size e
   refine call_enumerate_list p1.isList fun h' he hi hsz hk=>?_
   refine wpAny_pyIter_enum he ?_
   refine ⟨_,_,_,_,H1,rfl,I1.kept (t':=s1.toks) hk,zF9 false (s1.heap.objs.size+1) s1.heap.objs.size t (Nat.succ_ne_self _) (Nat.ne_of_gt (Nat.lt_succ_of_lt hlt)) (Nat.ne_of_lt hlt),⟨⟨_,he⟩,hi⟩,fun b hb=>?_,q⟩
   have hle:s1.heap.objs.size≤b:=by
    simp only [List.mem_cons,List.not_mem_nil,or_false] at hb
    rcases hb with rfl | rfl
    ·exact Nat.le_succ _
    ·exact Nat.le_refl _
   exact I1.fpOk hle (I1.hok.fresh hle)
end
open PySem PySem.Spec PyProof.Rows
structure ZAp (z TI TO i1 i2:Addr) (f1 f2:List Addr):Prop where
 TIz:TI≠z
 TOz:TO≠z
 i1z:i1≠z
 i2z:i2≠z
 TITO:TI≠TO
 TIi1:TI≠i1
 TIi2:TI≠i2
 TOi1:TO≠i1
 TOi2:TO≠i2
 i12:i1≠i2
 z1:z∉f1
 z2:z∉f2
 O1:TO∉f1
 O2:TO∉f2
 j1:i2∉f1
 j2:i1∉f2
section
variable {prog:Program}{w:World}{A:Around}{E:Value→Shared→Prop}{s:Shared}
variable {z TI TO i1 i2:Addr}{f1 f2:List Addr}{n1 n2 k:Nat}{P1 P2:Nat→Value→Prop}{S1 S2:Nat→Heap→Prop}
theorem Draws.sb {j c:Addr}{fp:List Addr}{n i:Nat}{P:Nat→Value→Prop}{St:Nat→Heap→Prop}{h h':Heap} (D:Draws prog w A j fp n P St) (st:St i h) (sb:Heap.SameBut c h h') (hc:c∉fp):St i h' :=
 D.frame _ _ _ st fun b hb o e=>sb.extBut b o (fun q=>hc (q▸hb)) e
theorem zIH {Q:Fin→Shared→Prop}{a b:Value} (hz:IsZip s.heap z TI TO .none) (hTI:IsPair s.heap TI (.ref i1) (.ref i2)) (hTO:IsPair s.heap TO a b) (hh:A.handled=none)
  (D1:∀ A:Around,A.handled=none→Draws prog w A i1 f1 n1 P1 S1) (D2:∀ A:Around,A.handled=none→Draws prog w A i2 f2 n2 P2 S2) (ap:ZAp z TI TO i1 i2 f1 f2) (h1:S1 k s.heap) (h2:S2 k s.heap)
  (hQ:k<n1→k<n2→∀ x y h' tk,P1 k x→P2 k y→IsZip h' z TI TO (rawInt s.heap.objs.size)→IsPair h' TO x y→S1 (k+1) h'→S2 (k+1) h'→IsPair h' s.heap.objs.size x y→h'.objs.size=s.heap.objs.size+1 →
   (∀ c o,c≠z→c≠TO→c≠i1→c≠i2→s.heap.get? c=some o→h'.get? c=some o)→Q (.done (.ret (.ref s.heap.objs.size))) { s with heap:=h',toks:=tk })
  (hE:(k=n1∨k=n2)→∀ h' e tk,(∀ c o,c≠z→c≠TO→c≠i1→c≠i2→s.heap.get? c=some o→h'.get? c=some o)→(∃ o,h'.get? e=some o∧o.cls=.type "StopIteration")→E (.ref e) { s with heap:=h',toks:=tk })
  (hk1:k≤n1) (hk2:k≤n2):wpAny (model prog w) A (Builtin.«zip.__next__» ⟨[.ref z],[]⟩) Q E s:=by
 show wpAny _ _ (field (.ref z) 2 >>= _) _ _ _
 refine wpAny_bind (wpAny_field hz rfl (x:=.bool false) rfl ?_)
 refine wpAny_bind (wpAny_field hz rfl (x:=.ref TI) rfl ?_)
 refine wpAny_bind (wpAny_seqItems hTI rfl ?_)
 refine wpAny_bind ?_
 refine wpAny_bind (wpAny_field hz rfl (x:=.none) rfl (wpAny_pure ?_))
 refine wpAny_bind (wpAny_rule ?_)
 refine wpAny_bind (wpAny_field hz rfl (x:=.ref TO) rfl ?_)
 refine wpAny_bind (wpAny_setField_rec hz (by simp) fun ha za sa=>?_)
 replace za:IsZip ha z TI TO .ellipsis:=za
 have s1a:=Draws.sb (D1 A hh) h1 sa ap.z1
 have s2a:=Draws.sb (D2 A hh) h2 sa ap.z2
 have oa:=sa.extBut _ _ ap.TOz hTO
 refine wpAny_bind ?_
 simp only [List.zipIdx_cons,List.zipIdx_nil,List.forIn_cons,List.forIn_nil]
 refine wpAny_bind (wpAny_bind (wpAny_onRaise ?_))
 by_cases l1:k<n1
 ·refine wpAny_bind ((D1 _ hh).item k _ _ _ l1 s1a fun x hb tb px s1b sb=>wpAny_pure ?_)
  have ob:=sb.extBut _ _ ap.TOi1 oa
  have s2b:=Draws.sb (D2 A hh) s2a sb ap.j2
  have zb:=sb.extBut _ _ ap.i1z.symm za
  refine wpAny_bind (wpAny_seqItems ob rfl ?_)
  refine wpAny_bind (wpAny_updateSeq_pair ob fun hc oc sc=>?_)
  have s1c:=Draws.sb (D1 A hh) s1b sc ap.O1
  have s2c:=Draws.sb (D2 A hh) s2b sc ap.O2
  have zc:=sc.extBut _ _ ap.TOz.symm zb
  refine wpAny_bind (wpAny_letGo (wpAny_pure ?_))
  refine wpAny_bind (wpAny_bind (wpAny_onRaise ?_))
  by_cases l2:k<n2
  ·refine wpAny_bind ((D2 _ hh).item k _ _ _ l2 s2c fun y hd td py s2d sd=>wpAny_pure ?_)
   have od:IsPair hd TO x b:=sd.extBut _ _ ap.TOi2 oc
   have s1d:=Draws.sb (D1 A hh) s1c sd ap.j1
   have zd:=sd.extBut _ _ ap.i2z.symm zc
   refine wpAny_bind (wpAny_seqItems od rfl ?_)
   refine wpAny_bind (wpAny_updateSeq_pair od fun he oe se=>?_)
   replace oe:IsPair he TO x y:=oe
   have s1e:=Draws.sb (D1 A hh) s1d se ap.O1
   have s2e:=Draws.sb (D2 A hh) s2d se ap.O2
   have ze:=se.extBut _ _ ap.TOz.symm zd
   refine wpAny_bind (wpAny_letGo (wpAny_pure (wpAny_pure ?_)))
   refine wpAny_bind (wpAny_seqItems oe rfl ?_)
   refine wpAny_bind (wpAny_newTuple ?_)
   have hsz:he.objs.size=s.heap.objs.size:=by rw [se.1,sd.1,sc.1,sb.1,sa.1]
   have kp:∀ c o,c≠z→c≠TO→c≠i1→c≠i2→s.heap.get? c=some o→he.get? c=some o:=fun c o c1 c2 c3 c4 e =>
    se.extBut _ _ c2 (sd.extBut _ _ c4 (sc.extBut _ _ c2 (sb.extBut _ _ c3 (sa.extBut _ _ c1 e))))
   have zlt:=Heap.lt_size ze
   refine wpAny_bind ?_
   have zf:IsZip (he.push { cls:=.type "tuple",data:=.seq #[x,y] }) z TI TO .ellipsis:=Heap.get?_push_of_some _ ze
   refine wpAny_bind (wpAny_setField_rec zf (by simp) fun hg zg sg=>?_)
   replace zg:IsZip hg z TI TO (rawInt he.objs.size):=zg
   refine wpAny_setField_rec zg (by simp) fun hi zi si=>?_
   replace zi:IsZip hi z TI TO (rawInt he.objs.size):=zi
   have up:∀ c o,c≠z→he.get? c=some o→hi.get? c=some o:=fun c o c1 e=>si.extBut _ _ c1 (sg.extBut _ _ c1 (Heap.get?_push_of_some _ e))
   have tz:=si.extBut _ _ (Nat.ne_of_gt zlt) (sg.extBut _ _ (Nat.ne_of_gt zlt) (Heap.get?_push_size _ rfl))
   have zz:hi.objs.size=he.objs.size+1:=by rw [si.1,sg.1,Heap.size_push]
   have s1i:=(D1 A hh).frame _ _ _ s1e fun b hb o e=>up b o (fun q=>ap.z1 (q▸hb)) e
   have s2i:=(D2 A hh).frame _ _ _ s2e fun b hb o e=>up b o (fun q=>ap.z2 (q▸hb)) e
   rw [hsz] at zi tz zz
   refine wpAny_pure ?_
   rw [hsz]
   exact hQ l1 l2 x y hi td px py zi (up _ _ ap.TOz oe) s1i s2i tz zz fun c o c1 c2 c3 c4 e=>up c o c1 (kp c o c1 c2 c3 c4 e)
  ·have e2:=Nat.le_antisymm hk2 (Nat.le_of_not_lt l2)
   refine wpAny_bind ((D2 _ hh).done _ _ _ (e2▸s2c) fun hd e sd he=>?_)
   obtain ⟨oe,hoe,hce⟩:=he
   have zd:=sd _ _ ap.i2z.symm zc
   have hez:e≠z:=fun q=>by subst q; rw [zd] at hoe; cases hoe; simp at hce
   refine wpAny_setField_rec zd (by simp) fun hf _ sf=>hE (.inr e2) hf e tb (fun c o c1 c2 c3 c4 q=>sf.extBut _ _ c1 (sd _ _ c4 (sc.extBut _ _ c2 (sb.extBut _ _ c3 (sa.extBut _ _ c1 q))))) ⟨oe,sf.extBut _ _ hez hoe,hce⟩
 ·have e1:=Nat.le_antisymm hk1 (Nat.le_of_not_lt l1)
  refine wpAny_bind ((D1 _ hh).done _ _ _ (e1▸s1a) fun hd e sd he=>?_)
  obtain ⟨oe,hoe,hce⟩:=he
  have zd:=sd _ _ ap.i1z.symm za
  have hez:e≠z:=fun q=>by subst q; rw [zd] at hoe; cases hoe; simp at hce
  exact wpAny_setField_rec zd (by simp) fun hf _ sf=>hE (.inl e1) hf e s.toks (fun c o c1 _ c3 _ q=>sf.extBut _ _ c1 (sd _ _ c3 (sa.extBut _ _ c1 q))) ⟨oe,sf.extBut _ _ hez hoe,hce⟩
theorem WalksT.zipD (hh:A.handled=none) (D1:∀ A:Around,A.handled=none→Draws prog w A i1 f1 n1 P1 S1) (D2:∀ A:Around,A.handled=none→Draws prog w A i2 f2 n2 P2 S2) (ap:ZAp z TI TO i1 i2 f1 f2) (m1:i1∈f1) (m2:i2∈f2) :
  WalksT prog w A z (z::TI::TO::f1++f2) [z,TO,i1,i2] (min n1 n2) (fun i vals=>∃ x y,P1 i x∧P2 i y∧vals=#[x,y])
   (fun i h=>IsZip h z TI TO .none∧IsPair h TI (.ref i1) (.ref i2)∧(∃ a b,IsPair h TO a b)∧S1 i h∧S2 i h)
   (fun i T h=>IsZip h z TI TO (rawInt T)∧IsPair h TI (.ref i1) (.ref i2)∧(∃ a b,IsPair h TO a b)∧S1 (i+1) h∧S2 (i+1) h∧T≠z∧T≠TO∧T≠i1∧T≠i2) where
 sub:=fun c hc=>by simp at hc ⊢; rcases hc with rfl | rfl | rfl | rfl <;> simp [m1,m2]
 frame:=fun i h h' hst hk=>by
  obtain ⟨hz,hTI,⟨a,b,hTO⟩,h1,h2⟩:=hst
  exact ⟨hk z (by simp) _ hz,hk TI (by simp) _ hTI,⟨a,b,hk TO (by simp) _ hTO⟩,(D1 A hh).frame _ _ _ h1 fun b hb o e=>hk b (by simp [hb]) o e,(D2 A hh).frame _ _ _ h2 fun b hb o e=>hk b (by simp [hb]) o e⟩
 item:=fun i s Q E hi hst hQ=>by
  obtain ⟨hz,hTI,⟨a,b,hTO⟩,h1,h2⟩:=hst
  have hT:s.TypeIs (.ref z) "zip":=⟨_,hz,rfl⟩
  have lt:∀ {c o},s.heap.get? c=some o→s.heap.objs.size≠c:=fun e=>Nat.ne_of_gt (Heap.lt_size e)
  refine wpAny_bind (wpAny_attempt (wpAny_callSpecial?_slot hT F.slot_zip_next
   (wpAny_call_entry F.slot_zip_next hT F.entry_zip_next (zIH hz hTI hTO hh D1 D2 ap h1 h2 (fun _ _ x y h' tk px py a1 a2 a3 a4 a5 a6 hk=>⟨_,rfl,wpAny_pure ?_⟩) (fun q=>by lia) (by lia) (by lia)) (F.args_zip_next_1 _))))
  refine hQ s.heap.objs.size #[x,y] h' tk ⟨x,y,px,py,rfl⟩ (Nat.le_refl _) ⟨_,a5,rfl,_,rfl⟩ ⟨a1,hk _ _ ap.TIz ap.TITO ap.TIi1 ap.TIi2 hTI,⟨_,_,a2⟩,a3,a4,lt hz,lt hTO,?_,?_⟩
   fun c o hc e=>hk c o (fun x=>hc (by simp [x])) (fun x=>hc (by simp [x])) (fun x=>hc (by simp [x])) (fun x=>hc (by simp [x])) e
  ·obtain ⟨_,e⟩:=(D1 A hh).live _ _ h1; exact lt e
  ·obtain ⟨_,e⟩:=(D2 A hh).live _ _ h2; exact lt e
 go:=fun elts k pos i T s Q E hm hQ=>by
  obtain ⟨hz,hTI,⟨a,b,hTO⟩,h1,h2,_⟩:=hm
  refine wpAny_letOwnedTupleGo_zip hz fun h' hz' hs'=>hQ h' ⟨hz',hs'.extBut _ _ ap.TIz hTI,⟨a,b,hs'.extBut _ _ ap.TOz hTO⟩,Draws.sb (D1 A hh) h1 hs' ap.z1,Draws.sb (D2 A hh) h2 hs' ap.z2⟩ fun c o hc e=>hs'.extBut _ _ (fun x=>hc (by simp [x])) e
 apart:=fun i T h hm hT=>by
  obtain ⟨_,_,_,_,_,t1,t2,t3,t4⟩:=hm
  simp at hT
  rcases hT with rfl | rfl | rfl | rfl
  ·exact t1 rfl
  ·exact t2 rfl
  ·exact t3 rfl
  ·exact t4 rfl
 done:=fun s Q E hst hQ=>by
  obtain ⟨hz,hTI,⟨a,b,hTO⟩,h1,h2⟩:=hst
  have hT:s.TypeIs (.ref z) "zip":=⟨_,hz,rfl⟩
  refine wpAny_bind (wpAny_attempt (wpAny_callSpecial?_slot hT F.slot_zip_next
   (wpAny_call_entry F.slot_zip_next hT F.entry_zip_next (zIH hz hTI hTO hh D1 D2 ap h1 h2 (fun q1 q2=>by lia) (fun _ h' e tk hk he=>?_) (by lia) (by lia)) (F.args_zip_next_1 _))))
  obtain ⟨o,ho,hc⟩:=he
  refine wpAny_bind (wpAny_isInstance ⟨o,ho,hc⟩ isSubtype_stop ?_)
  exact wpAny_pure (hQ _ _ fun c o hc e=>hk c o (fun x=>hc (by simp [x])) (fun x=>hc (by simp [x])) (fun x=>hc (by simp [x])) (fun x=>hc (by simp [x])) e)
 self:=fun i s Q E hst hQ=>wpAny_pyIter_zip hst.1 hQ
end
open PySem PySem.Spec PyProof.Rows
noncomputable def itO (b:Bool) (l:Addr):Obj:={ cls:=.type (if b then "tuple_iterator" else "list_iterator"),data:=.fields #[.ref l,.int 0 0] }
noncomputable abbrev zq2 (h:Heap) (b1 b2:Bool) (l1 l2:Addr):Heap:=(h.push (itO b1 l1)).push (itO b2 l2)
noncomputable abbrev zq3 (h:Heap) (b1 b2:Bool) (l1 l2:Addr):Heap:=(zq2 h b1 b2 l1 l2).push { cls:=.type "tuple",data:=.seq #[.ref h.objs.size,.ref (h.push (itO b1 l1)).objs.size] }
noncomputable abbrev zq4 (h:Heap) (b1 b2:Bool) (l1 l2:Addr):Heap:=(zq3 h b1 b2 l1 l2).push { cls:=.type "tuple",data:=.seq #[.none,.none] }
noncomputable abbrev zq5 (h:Heap) (b1 b2:Bool) (l1 l2:Addr):Heap:=(zq4 h b1 b2 l1 l2).push { cls:=.type "zip",data:=.fields #[.none,.bool false,.bool false,.ref (zq2 h b1 b2 l1 l2).objs.size,.ref (zq3 h b1 b2 l1 l2).objs.size] }
theorem zKi (l1 l2:Addr) (xs ys:Array Value) :
  Meets (Builtin.«zip.__new__» ⟨[.type "zip",.ref l1,.ref l2],[]⟩) (fun _ R s=>s.heap.IsTuple l1 xs∧s.heap.IsTuple l2 ys ∧
   R (.ok (.ret (.ref (zq4 s.heap true true l1 l2).objs.size))) { s with heap:=zq5 s.heap true true l1 l2 }) :=
 .of_wp fun prog w A R s h=>by
  obtain ⟨hp,g,d,tk,os⟩:=s; obtain ⟨hl1,hl2,h⟩:=h
  have hsub:=sub_zip
  have hL1:=hl1
  have hL2:Heap.IsTuple (Shared.heap ⟨hp.push { cls:=.type "tuple_iterator",data:=.fields #[.ref l1,.int 0 0] },g,d,tk,os⟩) l2 ys:=Heap.IsTuple.push hl2 _
  wp_walk using wpAny_pyIter_tuple hL1,wpAny_pyIter_tuple hL2
  exact ⟨_,rfl,h⟩
theorem zKj (l1 l2:Addr) (xs ys:Array Value) :
  Meets (Builtin.«zip.__new__» ⟨[.type "zip",.ref l1,.ref l2],[]⟩) (fun _ R s=>s.heap.IsTuple l1 xs∧s.heap.IsList l2 ys ∧
   R (.ok (.ret (.ref (zq4 s.heap true false l1 l2).objs.size))) { s with heap:=zq5 s.heap true false l1 l2 }) :=
 .of_wp fun prog w A R s h=>by
  obtain ⟨hp,g,d,tk,os⟩:=s; obtain ⟨hl1,hl2,h⟩:=h
  have hsub:=sub_zip
  have hL1:=hl1
  have hL2:Heap.IsList (Shared.heap ⟨hp.push { cls:=.type "tuple_iterator",data:=.fields #[.ref l1,.int 0 0] },g,d,tk,os⟩) l2 ys:=Heap.IsList.push hl2 _
  wp_walk using wpAny_pyIter_tuple hL1,wpAny_pyIter_list hL2
  exact ⟨_,rfl,h⟩
theorem zKk (l1 l2:Addr) (xs ys:Array Value) :
  Meets (Builtin.«zip.__new__» ⟨[.type "zip",.ref l1,.ref l2],[]⟩) (fun _ R s=>s.heap.IsList l1 xs∧s.heap.IsTuple l2 ys ∧
   R (.ok (.ret (.ref (zq4 s.heap false true l1 l2).objs.size))) { s with heap:=zq5 s.heap false true l1 l2 }) :=
 .of_wp fun prog w A R s h=>by
  obtain ⟨hp,g,d,tk,os⟩:=s; obtain ⟨hl1,hl2,h⟩:=h
  have hsub:=sub_zip
  have hL1:=hl1
  have hL2:Heap.IsTuple (Shared.heap ⟨hp.push { cls:=.type "list_iterator",data:=.fields #[.ref l1,.int 0 0] },g,d,tk,os⟩) l2 ys:=Heap.IsTuple.push hl2 _
  wp_walk using wpAny_pyIter_list hL1,wpAny_pyIter_tuple hL2
  exact ⟨_,rfl,h⟩
theorem zKl (l1 l2:Addr) (xs ys:Array Value) :
  Meets (Builtin.«zip.__new__» ⟨[.type "zip",.ref l1,.ref l2],[]⟩) (fun _ R s=>s.heap.IsList l1 xs∧s.heap.IsList l2 ys ∧
   R (.ok (.ret (.ref (zq4 s.heap false false l1 l2).objs.size))) { s with heap:=zq5 s.heap false false l1 l2 }) :=
 .of_wp fun prog w A R s h=>by
  obtain ⟨hp,g,d,tk,os⟩:=s; obtain ⟨hl1,hl2,h⟩:=h
  have hsub:=sub_zip
  have hL1:=hl1
  have hL2:Heap.IsList (Shared.heap ⟨hp.push { cls:=.type "list_iterator",data:=.fields #[.ref l1,.int 0 0] },g,d,tk,os⟩) l2 ys:=Heap.IsList.push hl2 _
  wp_walk using wpAny_pyIter_list hL1,wpAny_pyIter_list hL2
  exact ⟨_,rfl,h⟩
theorem zN2 (b1 b2:Bool) (l1 l2:Addr) (xs ys:Array Value) :
  Meets (Builtin.«zip.__new__» ⟨[.type "zip",.ref l1,.ref l2],[]⟩) (fun _ R s=>IsX b1 s.heap l1 xs∧IsX b2 s.heap l2 ys ∧
   R (.ok (.ret (.ref (zq4 s.heap b1 b2 l1 l2).objs.size))) { s with heap:=zq5 s.heap b1 b2 l1 l2 }):=by
 cases b1 with
 | true=>cases b2 with
  | true=>exact zKi l1 l2 xs ys
  | false=>exact zKj l1 l2 xs ys
 | false=>cases b2 with
  | true=>exact zKk l1 l2 xs ys
  | false=>exact zKl l1 l2 xs ys
theorem zLB {b:Bool}{h:Heap}{j l:Addr} (e:h.get? j=some (itO b l)):ItX b h j l 0:=by
 cases b with
 | true=>exact ⟨_,e,rfl,rfl⟩
 | false=>exact ⟨_,e,rfl,rfl⟩
theorem zJ8 (b:Bool) (l:Addr):(itO b l).isFreed=false:=by cases b <;> rfl
section
variable {prog:Program}{w:World}{A:Around}{E:Value→Shared→Prop}{s:Shared}
theorem zMw {b1 b2:Bool}{l1 l2:Addr}{xs ys:Array Value}{Q:Value→Shared→Prop} (hl1:IsX b1 s.heap l1 xs) (hl2:IsX b2 s.heap l2 ys)
  (h:∀ h',IsZip h' (s.heap.objs.size+4) (s.heap.objs.size+2) (s.heap.objs.size+3) .none→IsPair h' (s.heap.objs.size+2) (.ref s.heap.objs.size) (.ref (s.heap.objs.size+1)) →
   IsPair h' (s.heap.objs.size+3) .none .none→ItX b1 h' s.heap.objs.size l1 0→ItX b2 h' (s.heap.objs.size+1) l2 0 →
   (∀ c o,s.heap.get? c=some o→h'.get? c=some o)→Q (.ref (s.heap.objs.size+4)) { s with heap:=h' }) :
  wpAny (model prog w) A (call (.type "zip") [.ref l1,.ref l2]) Q E s:=by
 refine callType_new F.called_zip (by decide) (F.typeCall_zip_2 _ _) (F.newCall_zip_2 _ _) (fun obj=>F.args_object_init_3 obj _ _) F.entry_zip_new (zN2 b1 b2 l1 l2 xs ys) ⟨hl1,hl2,?_⟩
 have z1:(s.heap.push (itO b1 l1)).objs.size=s.heap.objs.size+1:=Heap.size_push ..
 have z2:(zq2 s.heap b1 b2 l1 l2).objs.size=s.heap.objs.size+2:=by rw [Heap.size_push,z1]
 have z3:(zq3 s.heap b1 b2 l1 l2).objs.size=s.heap.objs.size+3:=by rw [Heap.size_push,z2]
 have z4:(zq4 s.heap b1 b2 l1 l2).objs.size=s.heap.objs.size+4:=by rw [Heap.size_push,z3]
 have g5:(zq5 s.heap b1 b2 l1 l2).get? (zq4 s.heap b1 b2 l1 l2).objs.size=some _:=Heap.get?_push_size _ rfl
 have g4:(zq5 s.heap b1 b2 l1 l2).get? (zq3 s.heap b1 b2 l1 l2).objs.size=some _:=Heap.get?_push_of_some _ (Heap.get?_push_size _ rfl)
 have g3:(zq5 s.heap b1 b2 l1 l2).get? (zq2 s.heap b1 b2 l1 l2).objs.size=some _:=Heap.get?_push_of_some _ (Heap.get?_push_of_some _ (Heap.get?_push_size _ rfl))
 have g2:(zq5 s.heap b1 b2 l1 l2).get? (s.heap.push (itO b1 l1)).objs.size=some (itO b2 l2):=Heap.get?_push_of_some _ (Heap.get?_push_of_some _ (Heap.get?_push_of_some _ (Heap.get?_push_size _ (zJ8 _ _))))
 have g1:(zq5 s.heap b1 b2 l1 l2).get? s.heap.objs.size=some (itO b1 l1):=Heap.get?_push_of_some _ (Heap.get?_push_of_some _ (Heap.get?_push_of_some _ (Heap.get?_push_of_some _ (Heap.get?_push_size _ (zJ8 _ _)))))
 rw [z2,z3,z4] at g5
 rw [z1,z2] at g3
 rw [z3] at g4
 rw [z1] at g2
 rw [z4]
 exact ⟨⟨_,g5,rfl⟩,h _ g5 g3 g4 (zLB g1) (zLB g2) fun c o x =>
  Heap.get?_push_of_some _ (Heap.get?_push_of_some _ (Heap.get?_push_of_some _ (Heap.get?_push_of_some _ (Heap.get?_push_of_some _ x))))⟩
end
theorem zPz {n l1 l2:Addr} (h1:l1<n) (h2:l2<n):ZAp (n+4) (n+2) (n+3) n (n+1) [n,l1] [n+1,l2]:=by
 constructor <;> (try simp only [List.mem_cons,List.not_mem_nil,or_false,not_or]) <;> (try refine ⟨?_,?_⟩) <;> (show ¬ (_=_)) <;> (simp only [Addr] at *; lia)
inductive ZgoX (b1 b2:Bool) (K:W.Frag) (H:Hp) (a b:Addr) (i:Nat):Prop
 | mk (xs ys:List V) (x y:V) (q1:SqX b1 K H a xs) (q2:SqX b2 K H b ys) (ex:xs[i]?=some x) (ey:ys[i]?=some y)
inductive ZstX (b1 b2:Bool) (K:W.Frag) (H:Hp) (a b:Addr) (i:Nat):Prop
 | mk (xs ys:List V) (q1:SqX b1 K H a xs) (q2:SqX b2 K H b ys) (ei:i=min xs.length ys.length)
noncomputable def ItzX (b1 b2:Bool) (K:W.Frag) (a b:Addr):It :=
  ⟨fun i H=>ZgoX b1 b2 K H a b i,
   fun i H v H'=>∃ T,H T=none∧v=.ref T∧∀ xs ys x y,SqX b1 K H a xs→SqX b2 K H b ys→xs[i]?=some x→ys[i]?=some y→H'=upd H T (.tup [x,y]),
   fun i H=>ZstX b1 b2 K H a b i⟩
structure ZsX (b1 b2:Bool) (z TI TO i1 i2 l1 l2:Addr) (i:Nat) (h:Heap):Prop where
 a1:IsZip h z TI TO .none
 a2:IsPair h TI (.ref i1) (.ref i2)
 a3:∃ a b,IsPair h TO a b
 a4:ItX b1 h i1 l1 i
 a5:ItX b2 h i2 l2 i
section
variable {b1 b2:Bool}{z TI TO i1 i2 l1 l2:Addr}{i:Nat}{h:Heap}
theorem ZsX.obj (st:ZsX b1 b2 z TI TO i1 i2 l1 l2 i h):∀ b∈[z,TI,TO,i1,i2],∃ o,h.get? b=some o∧∀ v,o.data≠.cell v:=by
 obtain ⟨_,_,a3⟩:=st.a3
 exact allC ⟨_,st.a1,fun v q=>by cases q⟩ (allC ⟨_,st.a2,fun v q=>by cases q⟩ (allC ⟨_,a3,fun v q=>by cases q⟩ (allC st.a4.obj (allC st.a5.obj allN))))
theorem ZsX.ne (st:ZsX b1 b2 z TI TO i1 i2 l1 l2 i h) {T:Addr} (hT:h.objs.size≤T):∀ b∈[z,TI,TO,i1,i2],b≠T:=fun b hb=>by
 obtain ⟨o,e,_⟩:=st.obj b hb
 exact Nat.ne_of_lt (Nat.lt_of_lt_of_le (Heap.lt_size e) hT)
theorem zsub:∀ b∈[z,TO,i1,i2],b∈[z,TI,TO,i1,i2]:=by simp_all
inductive ZFX (b1 b2:Bool) (X:Cx) (s:Shared) (H:Hp) (l1 l2:Addr) (i:Nat):Prop
 | mk (xs ys:List V) (x y:V) (t1 t2:List Value) (u1 u2:Value) (q1:SqX b1 X.K H l1 xs) (q2:SqX b2 X.K H l2 ys) (ex:xs[i]?=some x) (ey:ys[i]?=some y) (p1:IsX b1 s.heap l1 t1.toArray) (p2:IsX b2 s.heap l2 t2.toArray)
  (e1:t1[i]?=some u1) (e2:t2[i]?=some u2) (r1:RelV x u1) (r2:RelV y u2)
variable {X:Cx}{pins:List (Addr × Obj)}{σ:St}{H:Hp}{s:Shared}
theorem zfX (I:Inv X pins σ H s) (hg:ZgoX b1 b2 X.K H l1 l2 i):ZFX b1 b2 X s H l1 l2 i:=by
 obtain ⟨xs,ys,x,y,q1,q2,ex,ey⟩:=hg
 obtain ⟨its1,r1,p1⟩:=I.sqX q1
 obtain ⟨its2,r2,p2⟩:=I.sqX q2
 obtain ⟨u1,e1,ru1⟩:=r1.get ex
 obtain ⟨u2,e2,ru2⟩:=r2.get ey
 exact ⟨xs,ys,x,y,its1,its2,u1,u2,q1,q2,ex,ey,p1,p2,e1,e2,ru1,ru2⟩
theorem zvX {t1 t2:List Value}{u1 u2:Value}{vals:Array Value} (e1:t1[i]?=some u1) (e2:t2[i]?=some u2) (hv:∃ v1 v2,t1.toArray[i]?=some v1∧t2.toArray[i]?=some v2∧vals=#[v1,v2]):vals=#[u1,u2]:=by simp_all
theorem zyX (I:Inv X pins σ H s) {xs ys:List V}{x y:V} (q1:SqX b1 X.K H l1 xs) (q2:SqX b2 X.K H l2 ys) (ex:xs[i]?=some x) (ey:ys[i]?=some y) {T:Addr} (xs' ys':List V) (x' y':V) (s1:SqX b1 X.K H l1 xs') (s2:SqX b2 X.K H l2 ys') (t1:xs'[i]?=some x') (t2:ys'[i]?=some y'):upd H T (.tup [x,y])=upd H T (.tup [x',y']):=by
 have h1:=I.sqX_inj q1 s1
 have h2:=I.sqX_inj q2 s2
 subst h1 h2
 rw [ex] at t1; rw [ey] at t2
 cases t1; cases t2; rfl
end
theorem zKo {P:Program}{w:World}{K:PySem.W.Frag}{elts:List Expr}{k:Nat}{pos:Pos} (b1 b2:Bool) (z TI TO i1 i2 l1 l2:Addr) (D:ZAp z TI TO i1 i2 [i1,l1] [i2,l2]) (d1:l1≠i1) (d2:l2≠i2) :
  Turn P w K (.Tuple elts k pos) (ItzX b1 b2 K l1 l2) [z,TI,TO,i1,i2] z (ZsX b1 b2 z TI TO i1 i2 l1 l2) where
 mem:=by simp
 obj:=fun i h st=>st.obj
 keep:=fun i h h' ⟨a1,a2,⟨x,y,a3⟩,a4,a5⟩ kk =>
  ⟨kk z (by simp) _ a1,kk TI (by simp) _ a2,⟨x,y,kk TO (by simp) _ a3⟩,a4.keep fun o e=>kk i1 (by simp) o e,a5.keep fun o e=>kk i2 (by simp) o e⟩
 item:=by
  intro X hP hw hK hc i pins s σ H E I hf st hg
  subst hP hw hK
  obtain ⟨xs,ys,x,y,its1,its2,u1,u2,q1,q2,ex,ey,p1,p2,e1,e2,ru1,ru2⟩:=zfX I hg
  have W:=WalksT.zipD (prog:=X.prog) (w:=X.w) (I.ok.hd hc) (fun A hh=>zFx b1 hh i1 l1 d1 its1.toArray) (fun A hh=>zFx b2 hh i2 l2 d2 its2.toArray) D (by simp) (by simp)
  have hl1:=(List.getElem?_eq_some_iff.mp e1).1
  have hl2:=(List.getElem?_eq_some_iff.mp e2).1
  have hwr:=fun b hb=>hf b (zsub b hb)
  refine W.item i s _ _ (by simp only [List.size_toArray]; lia) ⟨st.a1,st.a2,st.a3,⟨st.a4,p1⟩,st.a5,p2⟩ fun T vals h' tk hv hT hIs hM kk=>?_
  have hvv:=zvX e1 e2 hv
  subst hvv
  have nT:=st.ne hT
  refine ⟨_,rfl,W.go _ _ _ i T { s with heap:=h',toks:=tk } _ _ hM fun h2 st2 kk2=>?_⟩
  have I1:Inv X pins σ (upd H T (.tup [x,y])) { s with heap:=h',toks:=tk }:=I.yields hwr kk hT (.cons ru1 (.cons ru2 .nil)) (by show 2≤sizeLine; decide) hIs
  have I2:=I1.turnedL (tk:=tk) (zPp hwr fun b hb=>nT b (zsub b hb)) kk2
  exact ⟨.ref T,_,I2,rfl,⟨T,I.hok.fresh hT,rfl,zyX I q1 q2 ex ey⟩,⟨st2.1,st2.2.1,st2.2.2.1,st2.2.2.2.1.1,st2.2.2.2.2.1⟩,fun b hb=>by rw [zA5 (nT b hb)]; exact (hf b hb).1⟩
 done:=by
  intro X hP hw hK hc i pins s σ H E I hf st hg
  subst hP hw hK
  obtain ⟨xs,ys,q1,q2,ei⟩:=hg
  obtain ⟨its1,r1,p1⟩:=I.sqX q1
  obtain ⟨its2,r2,p2⟩:=I.sqX q2
  have W:=WalksT.zipD (prog:=X.prog) (w:=X.w) (I.ok.hd hc) (fun A hh=>zFx b1 hh i1 l1 d1 its1.toArray) (fun A hh=>zFx b2 hh i2 l2 d2 its2.toArray) D (by simp) (by simp)
  have en:i=min its1.toArray.size its2.toArray.size:=by simp only [List.size_toArray,← r1.length,← r2.length]; exact ei
  refine W.done s _ _ (by rw [← en]; exact ⟨st.a1,st.a2,st.a3,⟨st.a4,p1⟩,st.a5,p2⟩) fun h' tk kk=>?_
  exact ⟨rfl,I.turnedL (fun b hb=>hf b (zsub b hb)) kk⟩
 self:=fun _ _ _ _ _ st h=>wpAny_pyIter_zip st.a1 h
section
variable {X:Cx}
noncomputable def iZipX (K:W.Frag) (ta:TA):TI:=fun σ H R=>ta σ H fun vs H1=>∃ a b b1 b2,vs=[.ref a,.ref b]∧(∃ xs,SqX b1 K H1 a xs)∧(∃ ys,SqX b2 K H1 b ys)∧R (ItzX b1 b2 K a b) H1
theorem zQy {elts:List Expr}{k:Nat}{tpos:Pos}{a b:Expr}{ta:TA}{p pos:Pos} (hg:Gl X "zip") (hm:X.mg "zip"=none) (ha:PA X [a,b] ta) (hs:starEach [a,b] X.env=[(false,eval a X.env),(false,eval b X.env)]:=by rfl) (hs2:starEach [b] X.env=[(false,eval b X.env)]:=by rfl) :
  PI X (.Tuple elts k tpos) (.Call (.Name "zip" p) [a,b] [] pos) (iZipX X.K ta):=by
 intro pins s σ H R I h
 refine Call_ (zE6 I hg hm bt_zip (PyProof.Rows.callWith_type1 (thn (ha pos pins s σ H _ I h) fun us s1 ⟨vs,H1,I1,r1,q1⟩=>?_) (by rw [hs,hs2]) (by rw [hs2]; rfl)))
 obtain ⟨l1,l2,b1,b2,e,⟨xs,h1⟩,⟨ys,h2⟩,q⟩:=q1
 subst e
 cases r1 with
 | cons r rr =>
  cases rr with
  | cons r' rr =>
   cases rr
   cases r
   cases r'
   obtain ⟨its1,v1,p1⟩:=I1.sqX h1
   obtain ⟨its2,v2,p2⟩:=I1.sqX h2
   refine zMw p1 p2 fun h' hz hTI hTO hi1 hi2 hk=>?_
   refine wpAny_pyIter_zip hz ?_
   have I2:=I1.kept (t':=s1.toks) hk
   refine ⟨_,_,_,_,H1,rfl,I2,zKo b1 b2 _ _ _ _ _ l1 l2 (zPz p1.lt p2.lt) (Nat.ne_of_lt p1.lt) (Nat.ne_of_lt (Nat.lt_succ_of_lt p2.lt)),⟨hz,hTI,⟨_,_,hTO⟩,hi1,hi2⟩,fun b hb=>?_,q⟩
   have hle:s1.heap.objs.size≤b:=by
    simp only [List.mem_cons,List.not_mem_nil,or_false] at hb
    rcases hb with rfl | rfl | rfl | rfl | rfl
    ·exact Nat.le_add_right _ _
    ·exact Nat.le_add_right _ _
    ·exact Nat.le_add_right _ _
    ·exact Nat.le_refl _
    ·exact Nat.le_add_right _ _
   exact I1.fpOk hle (I1.hok.fresh hle)
end
open PySem PySem.Spec PyProof.Rows
section
variable {X:Cx}{pins:List (Addr × Obj)}{σ:St}{H:Hp}{s:Shared}{scope:Scope}{N:List Str}{C:Addr}{ex:List Addr}
theorem zJC {elt iter tg:Expr}{ifs:List Expr}{pos pos' spos:Pos}{y0:Str}{go:TG} (hgo:PG X (.Name y0 pos') go) (hsw:swapsWith (.ListComp elt [⟨tg,iter,ifs,0⟩] scope pos) (some (.Name y0 pos')) spos.line X.env=pure true) {wi:TI}{g:TG}{tc:TT}{te:TE}{k:Nat}{js:List Nat}
  (B:zHE X scope N k js) (hi:PI X tg iter wi)
  (hg:∀ cl s H C ex,PG (zAj X scope N cl s H C ex) tg g) (htc:∀ cl s H C ex,PTs (zAj X scope N cl s H C ex) ifs tc) (hte:∀ cl s H C ex,PE (zAj X scope N cl s H C ex) elt te)
  (hs:∀ x,foldedSetIterable iter X.env x=pure x:=by intro _; rfl):PS X (.Assign [.Name y0 pos'] (.ListComp elt [⟨tg,iter,ifs,0⟩] scope pos) spos) (tAsg (zKx wi k js g tc te) go):=by
 intro pins s σ H D0 I h
 rw [exec_Assign_Name_used _ _ _ _ hsw]
 refine wpAny_bind (wpAny_standAt (wpAny_bind ?_))
 refine wpAny_bind (wpAny_mono (wpAny_comprehension_free rfl hs (zAO fun x hx=>I.ok.has x (B.free x hx)) B.kind B.names (thn (hi pins s σ H _ I h) fun v s1 h1=>thn h1 fun itv s2 h2=>?_)) (fun _ s' hq=>wpAny_pure (wpAny_pure hq)) fun _ _ e=>e)
 obtain ⟨it,fp,tn,J,H2,e,I2,T,st2,f2,hW⟩:=h2
 subst e
 refine zJj (Q:=fun x H1=>go x σ H1 D0.nx) B I2 T st2 f2 hg htc hte hW fun cl C H4 s5 hCle hDC I5 q=>?_
 obtain ⟨m,hn,_⟩:=id I5.loc
 have hC4:H4 C=none:=I5.free
 have IA:=I2.call' (s':=s5) I5.os I5.base I5.hok I5.bare (fun b hb=>⟨(f2 b hb).2.2.2.1,(f2 b hb).2.1,(f2 b hb).2.2.2.2.1,(f2 b hb).2.2.2.2.2⟩)
 have fC:∀ {H':Hp},H' C=none→∀ b∈[C],FpOk X pins H' b:=fun hn b hb=>by
  have:=by simpa using hb
  subst this
  exact I2.fpOk hCle hn
 have oC:∀ b∈[C],∃ o,s5.heap.get? b=some o∧∀ v,o.data≠.cell v:=fun b hb=>by
  have:=by simpa using hb
  subst this
  obtain ⟨o,_,_,ho,hd,_⟩:=id hn
  exact ⟨o,ho,fun v z=>by rw [hd] at z; cases z⟩
 have IB:=IA.pinned (fC hC4) oC
 refine thn (hgo _ s5 σ H4 (.ref s2.heap.objs.size) (.ref s2.heap.objs.size) _ IB rfl q) fun _ s6 ⟨σ6,H6,I6,q6⟩=>?_
 obtain ⟨oc,hoc,_⟩:=oC C (by simp)
 have hp6:=I6.pin (C,oc) (List.mem_append_right _ (List.mem_append_right _ (zAS (by simp) hoc)))
 refine ⟨m,hn.at' fun o e=>?_,fun h' hs'=>⟨σ6,H6,?_,q6⟩⟩
 ·have e':s5.heap.get? C=some o:=e
  rw [hoc] at e'; cases e'; exact hp6.1
 ·exact I6.unpinned.turnedL (fC hp6.2.1) fun b o nb e=>hs'.extBut b o (by simpa using nb) e
end
open PySem PySem.Spec PyProof.Rows
abbrev IsTri (h:Heap) (T:Addr) (a b c:Value):Prop:=h.get? T=some { cls:=.type "tuple",data:=.seq #[a,b,c] }
structure ZAp3 (z TI TO i1 i2 i3:Addr) (f1 f2 f3:List Addr):Prop where
 TIz:TI≠z
 TOz:TO≠z
 i1z:i1≠z
 i2z:i2≠z
 i3z:i3≠z
 TITO:TI≠TO
 TIi1:TI≠i1
 TIi2:TI≠i2
 TIi3:TI≠i3
 TOi1:TO≠i1
 TOi2:TO≠i2
 TOi3:TO≠i3
 z1:z∉f1
 z2:z∉f2
 z3:z∉f3
 O1:TO∉f1
 O2:TO∉f2
 O3:TO∉f3
 a12:i1∉f2
 a13:i1∉f3
 a21:i2∉f1
 a23:i2∉f3
 a31:i3∉f1
 a32:i3∉f2
inductive Zgo3 (K:W.Frag) (H:Hp) (a b c:Addr) (i:Nat):Prop
 | mk (xs ys us:List V) (x y u:V) (q1:SqL K H a xs) (q2:SqT K H b ys) (q3:SqT K H c us) (ex:xs[i]?=some x) (ey:ys[i]?=some y) (eu:us[i]?=some u)
inductive Zst3 (K:W.Frag) (H:Hp) (a b c:Addr) (i:Nat):Prop
 | mk (xs ys us:List V) (q1:SqL K H a xs) (q2:SqT K H b ys) (q3:SqT K H c us) (ei:i=min xs.length (min ys.length us.length))
structure Zs3 (z TI TO i1 i2 i3 l1 l2 l3:Addr) (i:Nat) (h:Heap):Prop where
 a1:IsZip h z TI TO .none
 a2:IsTri h TI (.ref i1) (.ref i2) (.ref i3)
 a3:∃ a b c,IsTri h TO a b c
 a4:ItX false h i1 l1 i
 a5:ItX true h i2 l2 i
 a6:ItX true h i3 l3 i
section
variable {z TI TO i1 i2 i3 l1 l2 l3:Addr}{i:Nat}{h:Heap}
theorem Zs3.obj (st:Zs3 z TI TO i1 i2 i3 l1 l2 l3 i h):∀ b∈[z,TI,TO,i1,i2,i3],∃ o,h.get? b=some o∧∀ v,o.data≠.cell v:=by
 obtain ⟨_,_,_,a3⟩:=st.a3
 exact allC ⟨_,st.a1,fun v q=>by cases q⟩ (allC ⟨_,st.a2,fun v q=>by cases q⟩ (allC ⟨_,a3,fun v q=>by cases q⟩ (allC st.a4.obj (allC st.a5.obj (allC st.a6.obj allN)))))
theorem Zs3.ne (st:Zs3 z TI TO i1 i2 i3 l1 l2 l3 i h) {T:Addr} (hT:h.objs.size≤T):∀ b∈[z,TI,TO,i1,i2,i3],b≠T:=fun b hb=>by
 obtain ⟨o,e,_⟩:=st.obj b hb
 exact Nat.ne_of_lt (Nat.lt_of_lt_of_le (Heap.lt_size e) hT)
inductive ZF3 (X:Cx) (s:Shared) (H:Hp) (l1 l2 l3:Addr) (i:Nat):Prop
 | mk (xs ys us:List V) (x y u:V) (t1 t2 t3:List Value) (u1 u2 u3:Value) (q1:SqL X.K H l1 xs) (q2:SqT X.K H l2 ys) (q3:SqT X.K H l3 us) (ex:xs[i]?=some x) (ey:ys[i]?=some y) (eu:us[i]?=some u)
  (p1:IsX false s.heap l1 t1.toArray) (p2:IsX true s.heap l2 t2.toArray) (p3:IsX true s.heap l3 t3.toArray) (e1:t1[i]?=some u1) (e2:t2[i]?=some u2) (e3:t3[i]?=some u3) (r1:RelV x u1) (r2:RelV y u2) (r3:RelV u u3)
variable {X:Cx}{pins:List (Addr × Obj)}{σ:St}{H:Hp}{s:Shared}
end
open PySem PySem.Spec PyProof.Rows
section
variable {X:Cx}
theorem zLG:∀ {us:List Value}{ns:List Int},IntsAre us ns→Vals (ns.map V.int) us
 | _,_,h=>by
  induction h with
  | nil=>exact .nil
  | cons _ _ _ ih=>exact .cons ⟨_,rfl⟩ ih
theorem zHi:zAw X (.builtin "sorted") (fun vs H Q=>∃ (p:Addr) (ns:List Int),vs=[.ref p]∧SqL X.K H p (ns.map V.int)∧ns.length<64∧∀ (l:Addr) (ms:List Int),H l=none→ms.Perm ns→ms.Pairwise (·≤·)→Q (.ref l) (upd H l (.lst (ms.map V.int)))):=by
 intro pins s σ H xs us Q I r h
 obtain ⟨p,ns,rfl,hq,hn,q⟩:=h
 obtain ⟨u,rfl,ru⟩:=zBm r
 cases ru
 obtain ⟨its,rv,pl,hz⟩:=I.list hq
 have hlen:=rv.length
 rw [List.length_map] at hlen
 refine sorted_ints pl.isList (zJM rv) (by lia) fun out ns' h1 h2 h3=>?_
 obtain ⟨e,he⟩:=sortedAll_at s.heap its out
 have hl:=h2.length_eq
 refine ⟨.ref (s.heap.objs.size+1),_,I.laid (t':=s.toks) (fun b o e=>sortedAll_old e) (Nat.le_succ _) ?_,rfl,q _ _ (I.hok.fresh (Nat.le_succ _)) h2 h3⟩
 exact ⟨by rw [List.length_map,hl]; exact Nat.le_trans (Nat.le_of_lt hn) (by decide),out.toList,e,zLG h1,by simpa using he⟩
theorem zFa {A:Around}{prog:Program}{w:World}{ns:List Int}{its:List Value} (r:Vals (ns.map V.int) its):TruthOf prog w A (fun i v=>its.toArray[i]?=some v) (fun i=>(ns.map (· != 0)).getD i false):=by
 intro i v s Q E hv hq
 have hv':=by simpa using hv
 have hl:i<ns.length:=by
  have h1:=(List.getElem?_eq_some_iff.mp hv').1
  have h2:=r.length
  rw [List.length_map] at h2
  lia
 obtain ⟨u,e,ru⟩:=Vals.get r (by rw [List.getElem?_map,List.getElem?_eq_getElem hl]; rfl)
 rw [e] at hv'
 cases hv'
 obtain ⟨t,rfl⟩:=ru
 have eq:(ns.map (· != 0)).getD i false=(ns[i] != 0):=by simp [List.getD,hl]
 have hq':Q ((ns.map (· != 0)).getD i false) s:=hq
 rw [eq] at hq'
 exact PyProof.Rows.truthy_int hq'
theorem zME (hc:X.calm=true):zAw X (.builtin "all") (fun vs H Q=>∃ (p:Addr) (ns:List Int),vs=[.ref p]∧SqT X.K H p (ns.map V.int)∧Q (.bl (ns.all (· != 0))) H):=by
 intro pins s σ H xs us Q I r h
 obtain ⟨p,ns,rfl,hq,q⟩:=h
 obtain ⟨u,rfl,ru⟩:=zBm r
 cases ru
 obtain ⟨its,rv,pl,hz⟩:=I.tuple hq
 have pl':=pl
 have hlt:p<s.heap.objs.size:=by obtain ⟨_,e,_⟩:=pl'; exact Heap.lt_size e
 have hlen:=rv.length
 rw [List.length_map] at hlen
 refine call_all_walk (wpAny_pyIter_tuple pl' ?_)
 refine ⟨s.heap.objs.size,_,[s.heap.objs.size],_,_,_,_,rfl,Walks.tuple (A:=X.A.in1) (I.ok.hd hc) s.heap.objs.size p (Nat.ne_of_lt hlt) its.toArray,⟨⟨_,Heap.get?_push_size _ rfl,rfl,rfl⟩,pl'.push _⟩,zFa rv,fun h' tk kk=>?_⟩
 have e:(List.range its.toArray.size).all (fun i=>(ns.map (· != 0)).getD i false)=ns.all (· != 0):=by rw [List.size_toArray,← hlen,show ns.length=(ns.map (· != 0)).length by simp,zGE,List.all_map]; rfl
 rw [e]
 refine ⟨.bl (ns.all (· != 0)),H,?_,rfl,q⟩
 exact I.kept (t':=tk) fun b o eb=>kk b o (by simp only [List.mem_singleton]; exact Nat.ne_of_lt (Heap.lt_size eb)) (Heap.get?_push_of_some _ eb)
theorem zMC (hc:X.calm=true):zAw X (.builtin "any") (fun vs H Q=>∃ (p:Addr) (ns:List Int),vs=[.ref p]∧SqT X.K H p (ns.map V.int)∧Q (.bl (ns.any (· != 0))) H):=by
 intro pins s σ H xs us Q I r h
 obtain ⟨p,ns,rfl,hq,q⟩:=h
 obtain ⟨u,rfl,ru⟩:=zBm r
 cases ru
 obtain ⟨its,rv,pl,hz⟩:=I.tuple hq
 have pl':=pl
 have hlt:p<s.heap.objs.size:=by obtain ⟨_,e,_⟩:=pl'; exact Heap.lt_size e
 have hlen:=rv.length
 rw [List.length_map] at hlen
 refine call_any_walk (wpAny_pyIter_tuple pl' ?_)
 refine ⟨s.heap.objs.size,_,[s.heap.objs.size],_,_,_,_,rfl,Walks.tuple (A:=X.A.in1) (I.ok.hd hc) s.heap.objs.size p (Nat.ne_of_lt hlt) its.toArray,⟨⟨_,Heap.get?_push_size _ rfl,rfl,rfl⟩,pl'.push _⟩,zFa rv,fun h' tk kk=>?_⟩
 have e:(List.range its.toArray.size).any (fun i=>(ns.map (· != 0)).getD i false)=ns.any (· != 0):=by rw [List.size_toArray,← hlen,show ns.length=(ns.map (· != 0)).length by simp,zGD,List.any_map]; rfl
 rw [e]
 refine ⟨.bl (ns.any (· != 0)),H,?_,rfl,q⟩
 exact I.kept (t':=tk) fun b o eb=>kk b o (by simp only [List.mem_singleton]; exact Nat.ne_of_lt (Heap.lt_size eb)) (Heap.get?_push_of_some _ eb)
end
open PySem PySem.Spec PyProof.Rows
def Raw (h:Heap) (d:Addr) (es:Array DictEntry) (ep:Nat):Prop:=∃ o,h.get? d=some o∧o.cls=.type "dict"∧o.data=.dict es ep
open PySem PySem.Spec PyProof.Rows
section
variable {prog:Program}{w:World}{A:Around}{E:Value→Shared→Prop}{s:Shared}{z TI TO:Addr}{f0:Value}
theorem zFt:isSubtype (.type "AttributeError") (.type "AttributeError")=pure true:=by kernel_rfl
end
open PySem PySem.Spec PyProof.Rows
section
variable {prog:Program}{w:World}{A:Around}{z TI TO i1 i2 d:Addr}{f1 f2:List Addr}{n1 n2:Nat}{P1 P2:Nat→Value→Prop}{S1 S2:Nat→Heap→Prop}
theorem zEl:entryFor table "dict.update.loop"=some Builtin.«dict.update.loop»:=by kernel_rfl
theorem zDX (args:Args):(Code.builtin "dict.update.loop" args).quiet=true:=by kernel_rfl
end
open PySem PySem.Spec PyProof.Rows
section
variable {prog:Program}{w:World}{A:Around}{E:Value→Shared→Prop}{s:Shared}{it d:Addr}{i ep:Nat}{es:Array DictEntry}
theorem knext {e:DictEntry}{Q:Option Value→Shared→Prop} (hit:s.heap.IsKeyIter it d i es.size ep) (hr:Raw s.heap d es ep) (hx:es[i]?=some e)
  (hQ:∀ h',h'.IsKeyIter it d (i+1) es.size ep→Heap.SameBut it s.heap h'→Q (some e.key) { s with heap:=h' }):wpAny (model prog w) A (pyNext (.ref it)) Q E s:=by
 have ty:=hit.typeIs
 obtain ⟨o,ho,hc,hd⟩:=id hit
 obtain ⟨od,hod,_,hdd⟩:=hr
 refine wpAny_bind (wpAny_attempt (wpAny_callSpecial?_slot ty F.slot_dict_keyiterator_next (wpAny_call_entry F.slot_dict_keyiterator_next ty F.entry_dict_keyiterator_next ?_ (F.args_dict_keyiterator_next_1 _))))
 refine wpAny_bind (wpAny_pure (wpAny_bind (wpAny_bind (wpAny_bind (wpAny_typeNameOfWhole_keyiter ty (wpAny_pure (wpAny_bind (wpAny_fieldsOf ho hd ?_))))))))
 refine wpAny_bind (wpAny_pure (wpAny_bind (wpAny_dictEntries hod hdd ?_)))
 rw [if_neg (by simp)]
 refine wpAny_bind (wpAny_pure (wpAny_bind (wpAny_dictEpoch hod hdd ?_)))
 rw [if_neg (by simp)]
 refine wpAny_pure ?_
 have n2:¬ ((i:Int)<0):=by lia
 simp only [n2,if_false,Int.toNat_natCast,hx]
 refine wpAny_bind (wpAny_bind (wpAny_typeNameOfWhole_keyiter ty (wpAny_pure (wpAny_bind (wpAny_isOneOf_keyiter ty ?_)))))
 show wpAny _ _ (setField (.ref it) 1 (rawInt (i+1)) >>= _) _ _ s
 refine wpAny_bind (wpAny_setField ho hd (by simp) ?_)
 have it2:(s.heap.update it (Obj.mapFields (·.setIfInBounds 1 (rawInt (i+1))))).IsKeyIter it d (i+1) es.size ep :=
  ⟨_,Heap.get?_update_self _ ho (Obj.isFreed_of_fields (Obj.data_mapFields hd _)),(Obj.cls_mapFields ..).trans hc,by rw [Obj.data_mapFields hd]; simp [rawInt]⟩
 have ty2:Shared.TypeIs { s with heap:=s.heap.update it (Obj.mapFields (·.setIfInBounds 1 (rawInt (i+1)))) } (.ref it) "dict_keyiterator":=it2.typeIs
 refine wpAny_bind (wpAny_holding (wpAny_bind (wpAny_isOneOf_keyiter ty2 ?_)))
 exact wpAny_pure (wpAny_pure ⟨_,rfl,wpAny_pure (hQ _ it2 (Heap.SameBut.update ..))⟩)
theorem kend {Q:Option Value→Shared→Prop} (hh:A.handled=none) (hit:s.heap.IsKeyIter it d i es.size ep) (hr:Raw s.heap d es ep) (hx:es[i]?=none)
  (hQ:∀ h',Heap.ExtBut it s.heap h'→Q none { s with heap:=h' }):wpAny (model prog w) A (pyNext (.ref it)) Q E s:=by
 have ty:=hit.typeIs
 obtain ⟨o,ho,hc,hd⟩:=id hit
 obtain ⟨od,hod,_,hdd⟩:=hr
 refine wpAny_bind (wpAny_attempt (wpAny_callSpecial?_slot ty F.slot_dict_keyiterator_next (wpAny_call_entry F.slot_dict_keyiterator_next ty F.entry_dict_keyiterator_next ?_ (F.args_dict_keyiterator_next_1 _))))
 refine wpAny_bind (wpAny_pure (wpAny_bind (wpAny_bind (wpAny_bind (wpAny_typeNameOfWhole_keyiter ty (wpAny_pure (wpAny_bind (wpAny_fieldsOf ho hd ?_))))))))
 refine wpAny_bind (wpAny_pure (wpAny_bind (wpAny_dictEntries hod hdd ?_)))
 rw [if_neg (by simp)]
 refine wpAny_bind (wpAny_pure (wpAny_bind (wpAny_dictEpoch hod hdd ?_)))
 rw [if_neg (by simp)]
 refine wpAny_pure ?_
 have n2:¬ ((i:Int)<0):=by lia
 simp only [n2,if_false,Int.toNat_natCast,hx]
 refine wpAny_bind (wpAny_bind (wpAny_typeNameOfWhole_keyiter ty (wpAny_pure ?_)))
 refine wpAny_bind (wpAny_setField (i:=0) ho hd (by simp) ?_)
 refine wpAny_raiseNew_none hh ?_
 refine wpAny_bind (wpAny_isInstance ⟨_,Heap.get?_push_size _ rfl,rfl⟩ isSubtype_stop ?_)
 exact wpAny_pure (hQ _ (((Heap.SameBut.update ..).extBut.push _).push _))
theorem zOj {Q:Value→Shared→Prop} (lo:(d == sysModules)=false) (hr:Raw s.heap d es ep)
  (hQ:Q (.ref s.heap.objs.size) { s with heap:=s.heap.push { cls:=.type "dict_keyiterator",data:=.fields #[.ref d,.int 0 0,.int es.size 0,.int ep 0] } }):wpAny (model prog w) A (pyIter (.ref d)) Q E s:=by
 obtain ⟨o,ho,hc,hdat⟩:=hr
 have ty:s.TypeIs (.ref d) "dict":=⟨o,ho,hc⟩
 refine wpAny_pyIter_slot ty F.slot_dict_iter (wpAny_call_entry F.slot_dict_iter ty F.entry_dict_iter ?_ (F.args_dict_iter_1 _))
 refine wpAny_bind (wpAny_bind (wpAny_notOrdered_dict ty (wpAny_bind (wpAny_pure (wpAny_pure ?_)))))
 refine wpAny_bind (wpAny_pure ?_)
 unfold Builtin.Dict.showsAll
 rw [if_neg (by rw [lo]; exact Bool.false_ne_true)]
 refine wpAny_bind (wpAny_pure (wpAny_bind (wpAny_dictEntries ho hdat (wpAny_bind (wpAny_dictEpoch ho hdat ?_)))))
 refine wpAny_bind (wpAny_newObj_type (wpAny_pure ⟨_,rfl,"dict_keyiterator",_,⟨_,Heap.get?_push_size _ rfl,rfl⟩,F.slot_dict_keyiterator_next.lookup,?_⟩))
 simpa [rawInt] using hQ
end
theorem zFn {α β:Type}{R:α→β→Prop}{xs:List α}{ys:List β} (r:Paired R xs ys):∀ {i:Nat}{y:β},ys[i]?=some y→∃ x,xs[i]?=some x∧R x y:=by
 induction r with
 | nil=>intro i y e; simp at e
 | cons h t ih =>
  intro i y e
  cases i with
  | zero=>simp at e; subst e; exact ⟨_,rfl,h⟩
  | succ i=>exact ih (by simpa using e)
open PySem PySem.Spec PyProof.Rows
noncomputable def one (zs:List Int) (z:Int):List Int:=if z∈zs then zs else z::zs
open PySem PySem.Spec PyProof.Rows
noncomputable def gallop':Bool→Keyed→Array Keyed→Nat→Nat→Nat→StateT SortSt Sem (Option Nat):=sortPriv% PySem.Builtin.gallop
open PySem PySem.Spec PyProof.Rows
section
variable {prog:Program}{w:World}{A:Around}{E:Value→Shared→Prop}{s:Shared}{κ:SortKind}{lt:Keyed→Keyed→Bool}{G:Keyed→Prop}{st:SortSt}
noncomputable def setG':Nat→StateT SortSt Sem Unit:=sortPriv% PySem.Builtin.setMinGallop
noncomputable abbrev LoC:=Option (Array Keyed) × Array Keyed × Nat × Nat × Nat × Nat × Nat
noncomputable abbrev LoM:=StateT SortSt Sem (ForInStep LoC)
noncomputable abbrev loD (a b out:Array Keyed) (ia ib:Nat):Array Keyed:=out++a.extract ia a.size++b.extract ib b.size
noncomputable abbrev loL (a b out:Array Keyed) (ia ib:Nat):Array Keyed:=out++b.extract ib b.size++a.extract ia a.size
noncomputable abbrev loR (r out:Array Keyed) (ia ib g p q:Nat):LoM:=pure (.done (some r,out,ia,ib,g,p,q))
noncomputable def lo3 (a b:Array Keyed) (g p q:Nat) (out:Array Keyed) (ia ib:Nat):LoM:=elem' a ia >>= fun v =>
 if (ia+1+1 == a.size)=true then loR (loL a b (out.push v) (ia+1) ib) (out.push v) (ia+1) ib g p q
 else if (decide (p<7)&&decide (q<7))=true then pure (.done (none,out.push v,ia+1,ib,g,p,q)) else pure (.yield (none,out.push v,ia+1,ib,g,p,q))
noncomputable def lo2b (a b:Array Keyed) (g p q:Nat) (out:Array Keyed) (ia ib:Nat):Option Nat→LoM
 | some k=>if k>0 then (if (ib+k == b.size)=true then loR (loD a b (out++b.extract ib (ib+k)) ia (ib+k)) (out++b.extract ib (ib+k)) ia (ib+k) g p k else lo3 a b g p k (out++b.extract ib (ib+k)) ia (ib+k)) else lo3 a b g p k out ia ib
 | _=>loR (loD a b out ia ib) out ia ib g p q
noncomputable def lo2 (a b:Array Keyed) (g p q:Nat) (out:Array Keyed) (ia ib:Nat):LoM:=elem' b ib >>= fun v =>
 if (ib+1 == b.size)=true then loR (loD a b (out.push v) ia (ib+1)) (out.push v) ia (ib+1) g p q
 else elem' a ia >>= fun u=>gallop' true u b (ib+1) (b.size - (ib+1)) 0 >>= lo2b a b g p q (out.push v) ia (ib+1)
noncomputable def lo1b (a b:Array Keyed) (g p q:Nat) (out:Array Keyed) (ia ib:Nat):Option Nat→LoM
 | some k=>if k>0 then (if (ia+k+1 == a.size)=true then loR (loL a b (out++a.extract ia (ia+k)) (ia+k) ib) (out++a.extract ia (ia+k)) (ia+k) ib g k q
   else if (ia+k == a.size)=true then loR (loD a b (out++a.extract ia (ia+k)) (ia+k) ib) (out++a.extract ia (ia+k)) (ia+k) ib g k q else lo2 a b g k q (out++a.extract ia (ia+k)) (ia+k) ib) else lo2 a b g k q out ia ib
 | _=>loR (loD a b out ia ib) out ia ib g p q
noncomputable def lo1 (a b:Array Keyed) (g p q:Nat) (out:Array Keyed) (ia ib:Nat):LoM:=setG' g >>= fun _=>elem' b ib >>= fun v=>gallop' false v a ia (a.size - ia) 0 >>= lo1b a b g p q out ia ib
end
open PySem PySem.Spec PyProof.Rows
section
variable {prog:Program}{w:World}{A:Around}{E:Value→Shared→Prop}{s:Shared}{κ:SortKind}{lt:Keyed→Keyed→Bool}{G:Keyed→Prop}{st:SortSt}
noncomputable abbrev HiC:=Option (Array Keyed) × Nat × Nat × Array Keyed × Nat × Nat × Nat
noncomputable abbrev HiM:=StateT SortSt Sem (ForInStep HiC)
noncomputable abbrev hiD (a b out:Array Keyed) (na nb:Nat):Array Keyed:=a.extract 0 na++b.extract 0 nb++out.reverse
noncomputable abbrev hiF (a b out:Array Keyed) (na nb:Nat):Array Keyed:=b.extract 0 nb++a.extract 0 na++out.reverse
noncomputable abbrev hiR (r out:Array Keyed) (na nb g p q:Nat):HiM:=pure (.done (some r,na,nb,out,g,p,q))
noncomputable def hi3 (a b:Array Keyed) (g p q:Nat) (out:Array Keyed) (na nb:Nat):HiM:=elem' a (na - 1) >>= fun v =>
 if (na - 1 == 0)=true then hiR (hiD a b (out.push v) (na - 1) nb) (out.push v) (na - 1) nb g p q
 else if (decide (p<7)&&decide (q<7))=true then pure (.done (none,na - 1,nb,out.push v,g,p,q)) else pure (.yield (none,na - 1,nb,out.push v,g,p,q))
noncomputable def hi2b (a b:Array Keyed) (g p q:Nat) (out:Array Keyed) (na nb:Nat):Option Nat→HiM
 | some k=>if nb - k>0 then (if (k == 1)=true then hiR (hiF a b (out++(b.extract k nb).reverse) na k) (out++(b.extract k nb).reverse) na k g p (nb - k)
   else if (k == 0)=true then hiR (hiD a b (out++(b.extract k nb).reverse) na k) (out++(b.extract k nb).reverse) na k g p (nb - k) else hi3 a b g p (nb - k) (out++(b.extract k nb).reverse) na k) else hi3 a b g p (nb - k) out na nb
 | _=>hiR (hiD a b out na nb) out na nb g p q
noncomputable def hi2 (a b:Array Keyed) (g p q:Nat) (out:Array Keyed) (na nb:Nat):HiM:=elem' b (nb - 1) >>= fun v =>
 if (nb - 1 == 1)=true then hiR (hiF a b (out.push v) na (nb - 1)) (out.push v) na (nb - 1) g p q
 else elem' a (na - 1) >>= fun u=>gallop' true u b 0 (nb - 1) (nb - 1 - 1) >>= hi2b a b g p q (out.push v) na (nb - 1)
noncomputable def hi1b (a b:Array Keyed) (g p q:Nat) (out:Array Keyed) (na nb:Nat):Option Nat→HiM
 | some k=>if na - k>0 then (if (k == 0)=true then hiR (hiD a b (out++(a.extract k na).reverse) k nb) (out++(a.extract k na).reverse) k nb g (na - k) q else hi2 a b g (na - k) q (out++(a.extract k na).reverse) k nb) else hi2 a b g (na - k) q out na nb
 | _=>hiR (hiD a b out na nb) out na nb g p q
noncomputable def hi1 (a b:Array Keyed) (g p q:Nat) (out:Array Keyed) (na nb:Nat):HiM:=setG' g >>= fun _=>elem' b (nb - 1) >>= fun v=>gallop' false v a 0 na (na - 1) >>= hi1b a b g p q out na nb
end
open PySem PySem.Spec PyProof.Rows
noncomputable abbrev Pend:=Nat × Nat × Nat
open PySem PySem.Spec PyProof.Rows
noncomputable def ItK (a:Addr) (o:Obj):It :=
 ⟨fun i H=>∃ kvs,H a=some (.frz o (.dK kvs))∧i<kvs.length,fun i H x H'=>H'=H∧∀ kvs,H a=some (.frz o (.dK kvs))→∃ p,kvs[i]?=some p∧x=kV p.1,fun i H=>∃ kvs,H a=some (.frz o (.dK kvs))∧kvs.length≤i⟩
theorem zNN {prog:Program}{w:World}:∀ {es:List DictEntry}{vs:List (Key × Value)},Pairs (zA8 prog w) es vs→∀ {i:Nat}{q:Key × Value},vs[i]?=some q→∃ e,es[i]?=some e∧(zA8 prog w).is q.1 e.key=true:=by
 intro es vs h
 induction h with
 | nil=>intro i q e; simp at e
 | cons h1 h2 _ ih =>
  intro i q e
  cases i with
  | zero=>simp at e; subst e; exact ⟨_,rfl,h1⟩
  | succ i=>exact ih (by simpa using e)
theorem zL8 {prog:Program}{w:World}:∀ {es:List DictEntry}{vs:List (Key × Value)},Pairs (zA8 prog w) es vs→es.length=vs.length:=by
 intro es vs h
 induction h with
 | nil=>rfl
 | cons _ _ _ ih=>simp [ih]
inductive FzK (X:Cx) (H:Hp) (h:Heap) (a:Addr) (o:Obj) (kvs:List (Key × V)):Prop
 | mk (es:Array DictEntry) (ep:Nat) (vs:List (Key × Value)) (g:h.get? a=some o) (c:o.cls=.type "dict") (d:o.data=.dict es ep) (r:KV kvs vs) (p:Pairs (zA8 X.prog X.w) es.toList vs) (lo:(a == sysModules)=false) (z:kvs.length≤sizeLine)
theorem zLQ {X:Cx}{pins:List (Addr × Obj)}{σ:St}{H:Hp}{s:Shared}{a:Addr}{o:Obj}{kvs:List (Key × V)} (I:Inv X pins σ H s) (e:H a=some (.frz o (.dK kvs))):FzK X H s.heap a o kvs:=by
 obtain ⟨g,z,lo,vs,r,o',es,ep,g1,g2,g3,g4,g5,g6⟩:=(I.hok a _ e)
 rw [g] at g1
 cases g1
 exact ⟨es,ep,vs,g,g2.1,g3,r,g5,lo,z⟩
theorem zQg {k:Key}{v:Value} (h:zGT k v=true):RelV (kV k) v:=by
 rcases zAi h with ⟨i,t,rfl,rfl⟩ | ⟨x,t,rfl,rfl⟩
 ·exact ⟨t,rfl⟩
 ·exact ⟨t,rfl⟩
theorem zJt {P:Program}{w:World}{K:W.Frag}{tg:Expr} (a it:Addr) (o:Obj) (es:Array DictEntry) (ep:Nat) (ho:o.data=.dict es ep):Turn P w K tg (ItK a o) [it] it (fun i h=>h.IsKeyIter it a i es.size ep) where
 mem:=by simp
 obj:=fun i h st b hb=>by
  have e:=by simpa using hb
  subst e
  obtain ⟨o,e,c,d⟩:=st
  exact ⟨o,e,fun v z=>by rw [d] at z; cases z⟩
 keep:=fun i h h' st k=>st.at fun o e=>k it (by simp) o e
 item:=by
  intro X hP hw hK hc i pins s σ H E I hf st hg
  obtain ⟨kvs,hq,hi⟩:=hg
  obtain ⟨es',ep',vs,g,c,d,r,p,lo,z⟩:=zLQ I hq
  rw [ho] at d
  cases d
  obtain ⟨f0,f1,f2,f3,f4,f5⟩:=hf it (by simp)
  have hvs:i<vs.length:=by rw [← Paired.length r]; exact hi
  obtain ⟨q,hq2⟩:∃ q,vs[i]?=some q:=⟨_,List.getElem?_eq_getElem hvs⟩
  obtain ⟨e,he,hk⟩:=zNN p hq2
  have hes:es[i]?=some e:=by rw [← Array.getElem?_toList]; exact he
  refine knext st ⟨o,g,c,ho⟩ hes fun h' st' sb=>?_
  have I1:=I.turned (t':=s.toks) (fun b o hb e=>(sb.2 b hb).trans e) f0 f1 f3 f4 f5
  obtain ⟨oi,ei,ci,di⟩:=id st'
  refine ⟨_,rfl,zLO ei ci di (by decide) ⟨kV q.1,H,I1,zQg hk,⟨rfl,fun kvs' h2=>?_⟩,st',fun b hb=>(hf b hb).1⟩⟩
  rw [hq] at h2
  cases h2
  obtain ⟨p',hp',hr⟩:=zFn r hq2
  exact ⟨p',hp',by rw [hr.1]⟩
 done:=by
  intro X hP hw hK hc i pins s σ H E I hf st hg
  subst hP hw hK
  obtain ⟨kvs,hq,hi⟩:=hg
  obtain ⟨es',ep',vs,g,c,d,r,p,lo,z⟩:=zLQ I hq
  rw [ho] at d
  cases d
  obtain ⟨f0,f1,f2,f3,f4,f5⟩:=hf it (by simp)
  have hes:es[i]?=none:=by
   rw [← Array.getElem?_toList,List.getElem?_eq_none]
   rw [zL8 p,← Paired.length r]; exact hi
  exact kend (I.ok.hd hc) st ⟨o,g,c,ho⟩ hes fun h' eb=>⟨rfl,I.turned (t':=s.toks) (fun b o hb e=>eb b o hb e) f0 f1 f3 f4 f5⟩
 self:=fun _ _ _ _ _ st h=>wpAny_pyIter_keyiter st h
theorem Inv.freeze {X:Cx}{pins:List (Addr × Obj)}{σ:St}{H:Hp}{s:Shared}{a:Addr}{kvs:List (Key × V)} (I:Inv X pins σ H s) (e:H a=some (.dK kvs)):∃ o,Inv X pins σ (upd H a (.frz o (.dK kvs))) s:=by
 obtain ⟨z,lo,vs,r,o,es,ep,g1,g2,g3,g4,g5,g6⟩:=(I.hok a _ e)
 refine ⟨o,?_⟩
 have mu:Mut (H a):=by rw [e]; trivial
 have hok:HOk X.prog X.w (upd H a (.frz o (.dK kvs))) s.heap:=I.hok.write mu (.inl rfl) (fun b u _ q=>q) ⟨o,g1⟩ ⟨g1,z,lo,vs,r,o,es,ep,g1,g2,g3,g4,g5,g6⟩
 exact I.un (t':=s.toks) (Un.write mu (.inl rfl) (fun b u _ q=>q) ⟨o,g1⟩) hok
section
variable {X:Cx}{tg e:Expr}
theorem dk_go {pins:List (Addr × Obj)}{σ:St}{H1:Hp}{s1:Shared}{a:Addr}{R:It→Hp→Prop} (I1:Inv X pins σ H1 s1) (q:∃ kvs,((H1 a=some (.dK kvs)∧∀ o,R (ItK a o) (upd H1 a (.frz o (.dK kvs))))∨∃ o,H1 a=some (.frz o (.dK kvs))∧R (ItK a o) H1)):wpAny (model X.prog X.w) X.A (pyIter (.ref a)) (PIE X pins σ tg R) X.xe s1:=by
 obtain ⟨kvs,q⟩:=q
 have go:∀ {H2:Hp}{o:Obj},Inv X pins σ H2 s1→H2 a=some (.frz o (.dK kvs))→R (ItK a o) H2→wpAny (model X.prog X.w) X.A (pyIter (.ref a)) (PIE X pins σ tg R) X.xe s1:=by
  intro H2 o I2 hq q
  obtain ⟨es,ep,vs,g,c,d,r,p,lo,z⟩:=zLQ I2 hq
  refine zOj lo ⟨o,g,c,d⟩ ?_
  refine ⟨s1.heap.objs.size,[s1.heap.objs.size],_,_,H2,rfl,I2.kept (t':=s1.toks) fun b o e=>Heap.get?_push_of_some _ e,zJt a _ o es ep d,⟨_,Heap.get?_push_size _ rfl,rfl,rfl⟩,fun b hb=>?_,q⟩
  have e:=by simpa using hb
  subst e
  exact I2.fpOk (Nat.le_refl _) (I2.hok.fresh (Nat.le_refl _))
 rcases q with ⟨hq,q⟩ | ⟨o,hq,q⟩
 ·obtain ⟨o,I2⟩:=I1.freeze hq
  exact go I2 zA4 (q o)
 ·exact go I1 hq q
end
open PySem PySem.Spec PyProof.Rows
section
variable {X:Cx}
theorem zLl:MtR X "dict.update" (fun x vs H Q=>∃ a b kvs more,x=.ref a∧vs=[.ref b]∧a≠b∧H a=some (.dK kvs)∧Rd H b (.dK more)∧kvs.length+more.length≤sizeLine∧Q .non (upd H a (.dK (zBk kvs more)))):=by
 intro pins s σ H x vs v us Q I rx rv h
 obtain ⟨a,b,kvs,more,rfl,rfl,hab,ha,hb,hz,q⟩:=h
 cases rx
 obtain ⟨u,rfl,ru⟩:=zBm rv
 cases ru
 obtain ⟨z1,lo1,vs,r1,d1⟩:=zOM I.hok ha
 obtain ⟨z2,lo2,ws,r2,d2⟩:=zH7 I.hok hb
 refine call_meetsIn PySem.F.slot_dict_update d1.typeIs PySem.F.entry_dict_update (PySem.F.args_dict_update_2 _ _) (meets_dict_update (zA8 X.prog X.w) a b hab lo2) ⟨vs,ws,d1,d2,by rw [← Paired.length r1,← Paired.length r2]; exact hz,fun h' g1 g2 sb=>?_⟩
 have hl:=Nat.le_trans (zB2 more kvs) hz
 have he:∃ q,h'.get? a=some q:=let ⟨q,_,_,hq,_⟩:=g1; ⟨q,hq⟩
 exact ⟨.non,upd H a (.dK (zBk kvs more)),zG2 (t':=s.toks) I (by rw [ha]; exact True.intro) sb he (zH8 hl lo1 (KV.merge r2 r1) g1),rfl,q⟩
theorem zHl:zAw X (.builtin "len") (fun xs H Q=>∃ a kvs,xs=[.ref a]∧Rd H a (.dK kvs)∧Q (.int (kvs.length:Int)) H):=by
 intro pins s σ H xs us Q I r h
 obtain ⟨a,kvs,rfl,e,q⟩:=h
 obtain ⟨u,rfl,ru⟩:=zBm r
 cases ru
 exact d_len I e fun t s' I'=>⟨.int _,H,I',⟨t,rfl⟩,q⟩
end
open PySem PySem.Spec PyProof.Rows
section
variable {prog:Program}{w:World}{A:Around}{E:Value→Shared→Prop}{s:Shared}{z:Addr}
theorem zHU {Q:Option Value→Shared→Prop}{xs:Array Value}{n:Nat}{sl:Array (Option Value)} (hz:s.heap.get? z=some { cls:=.type "list",dict:=none,data:=.seq xs n,slots:=sl }) (hh:A.handled=none) (hQ:∀ h' tk,(∀ b o,s.heap.get? b=some o→h'.get? b=some o)→Q none { s with heap:=h',toks:=tk }) :
  wpAny (model prog w) A (getAttr? (.ref z) (Str.ofString "keys")) Q E s:=by
 refine wpAny_bind (wpAny_mkText ?_)
 refine wpAny_bind (wpAny_attempt (wpAny_holding (wpAny_bind (wpAny_typeOf ⟨_,hz,rfl⟩ ?_))))
 refine wpAny_bind (wpAny_pure ?_)
 refine wpAny_bind (wpAny_pure ?_)
 refine wpAny_bind (wpAny_attempt (wpAny_holding ?_))
 refine wpAny_call_entry F.slot_list_getattribute ⟨_,hz,rfl⟩ am_entry_list_getattribute ?_ (F.args_list_getattribute_2 _ _)
 refine wpAny_bind (wpAny_pure ?_)
 refine wpAny_bind (wpAny_pure ?_)
 refine wpAny_bind (wpAny_typeOf ⟨_,hz,rfl⟩ ?_)
 refine wpAny_bind (wpAny_bind (wpAny_pure (wpAny_bind (wpAny_pure (wpAny_bind (wpAny_pure ?_))))))
 refine wpAny_bind (wpAny_bind (wpAny_bind (wpAny_load hz ?_)))
 refine wpAny_bind (wpAny_loadPart hz ?_)
 refine wpAny_pure ?_
 refine wpAny_pure ?_
 refine wpAny_bind (wpAny_pure ?_)
 refine wpAny_bind (wpAny_rule (wpAny_pure ?_))
 refine wpAny_bind (wpAny_bind (wpAny_bind (wpAny_typeOf ⟨_,hz,rfl⟩ (wpAny_pure ?_))))
 refine wpAny_pure ?_
 refine wpAny_raiseAttrError hh (fun h' tk e ne=>?_) (by size_fits)
 have ty:∀ g d os,Shared.TypeIs { heap:=h',gens:=g,drawn:=d,toks:=tk,os:=os } (.ref e) "AttributeError":=fun g d os=>let ⟨_,_,q⟩:=ne.there; ⟨_,q,rfl⟩
 refine wpAny_bind (wpAny_isInstance (ty _ _ _) zFt ?_)
 refine wpAny_bind (wpAny_pure ?_)
 refine wpAny_bind (wpAny_throw ?_)
 refine wpAny_bind (wpAny_isInstance (ty _ _ _) zFt ?_)
 exact wpAny_pure (hQ h' tk ne.keeps)
structure zDo where
 t:Addr
 k:Key
 key:Value
 v:Value
def zDo.at (q:zDo) (h:Heap):Prop:=∃ o n,h.get? q.t=some o∧o.cls=.type "tuple"∧o.data=.seq #[q.key,q.v] n
structure DL (prog:Program) (w:World) (it l d:Addr) (items:Array Value) (qs:List zDo) (h0:Heap):Prop where
 n:items.size=qs.length
 e:∀ (i:Nat) (q:zDo),qs[i]?=some q→items[i]?=some (Value.ref q.t)
 k:∀ q∈qs,(zA8 prog w).is q.k q.key=true
 p:∀ q∈qs,q.at h0
 l:h0.IsList l items
 fr:∀ c o,h0.get? c=some o→c≠it∧c≠d
 nd:it≠d
noncomputable abbrev stoQ (xs:List (Key × Value)) (qs:List zDo):List (Key × Value):=qs.foldl (fun a q=>stored a q.k q.v) xs
theorem zPK (xs:List (Key × Value)) (k:Key) (v:Value):(stored xs k v).length≤xs.length+1:=by
 unfold stored
 split
 ·rw [List.length_map]; lia
 ·simp
theorem dloopL {it l d:Addr}{items:Array Value}{qs:List zDo}{h0:Heap} (Z:DL prog w it l d items qs h0) (hh:A.handled=none) {R:Result→Shared→Prop}:∀ (m k:Nat) (s:Shared) (xs:List (Key × Value)),k+m=qs.length→xs.length+m≤sizeLine→s.heap.IsListIter it l k→s.heap.DictOf (zA8 prog w) d xs→(∀ c o,h0.get? c=some o→s.heap.get? c=some o) →
  (∀ h' tk,h'.DictOf (zA8 prog w) d (stoQ xs (qs.drop k))→(∀ c o,h0.get? c=some o→h'.get? c=some o)→R (.ok (.ret .none)) { s with heap:=h',toks:=tk }) →
  codeAny (model prog w) A (.builtin "dict.update.loop" ⟨[.ref d,.ref it,rawInt (k:Int),.none],[]⟩) R s:=by
 intro m
 induction m with
 | zero =>
  intro k s xs hk hl st dr he hR
  refine codeAny_builtin zEl ?_
  have hn:=Z.n
  refine wpAny_bind (wpAny_pyNext_list_end hh st (Heap.IsList.at Z.l fun o q=>he _ o q) (by simp; lia) fun h' eb=>?_)
  refine wpAny_pure ?_
  have e0:qs.drop k=[]:=List.drop_of_length_le (by lia)
  rw [e0] at hR
  refine hR h' s.toks ?_ fun c o q=>eb c o (Z.fr c o q).1 (he c o q)
  obtain ⟨o,es,ep,ho,r⟩:=dr
  exact ⟨o,es,ep,eb _ _ (Ne.symm Z.nd) ho,r⟩
 | succ m ih =>
  intro k s xs hk hl st dr he hR
  refine codeAny_builtin zEl ?_
  have kl:k<qs.length:=by lia
  have hq:=List.getElem?_eq_getElem kl
  have mk:=List.getElem_mem kl
  refine wpAny_bind (wpAny_pyNext_list_item st (Heap.IsList.at Z.l fun o q=>he _ o q) (Z.e k _ hq) fun h1 st1 sb=>?_)
  have e1:=fun c o q=>(sb.2 c (Z.fr c o q).1).trans (he c o q)
  obtain ⟨o,n,ho,hc,hd⟩:=Z.p _ mk
  have ho1:=e1 _ _ ho
  have dr1:h1.DictOf (zA8 prog w) d xs:=by
   obtain ⟨o,es,ep,q,r⟩:=dr
   exact ⟨o,es,ep,(sb.2 d (Ne.symm Z.nd)).trans q,r⟩
  refine wpAny_bind (wpAny_holding (wpAny_bind (wpAny_tryCatch ?_)))
  refine wpAny_bind (wpAny_typeOf ⟨_,ho1,hc⟩ ?_)
  refine wpAny_bind (wpAny_seqItems ho1 hd (wpAny_pure ?_))
  refine wpAny_holding (wpAny_dictSet_pairs (Z.k _ mk) dr1 (fun h2 dd hs=>?_) (by lia))
  refine wpAny_pure ⟨zDX _,?_⟩
  refine ih (k+1) _ _ (by lia) (by have:=zPK xs qs[k].k qs[k].v; lia) (st1.at fun o q=>(hs.2 it Z.nd).trans q) dd (fun c o q=>(hs.2 c (Z.fr c o q).2).trans (e1 c o q)) fun h' tk' dr' ex=>hR h' tk' ?_ ex
  rw [List.drop_eq_getElem_cons kl]
  exact dr'
theorem zGa {l:Addr}{items:Array Value}{n:Nat}{sl:Array (Option Value)}{qs:List zDo}{Q:Value→Shared→Prop} (hh:A.handled=none) (hl:s.heap.get? l=some { cls:=.type "list",dict:=none,data:=.seq items n,slots:=sl }) (hn:items.size=qs.length) (he:∀ (i:Nat) (q:zDo),qs[i]?=some q→items[i]?=some (Value.ref q.t)) (hk:∀ q∈qs,(zA8 prog w).is q.k q.key=true) (hp:∀ q∈qs,q.at s.heap) (hz:qs.length≤sizeLine)
  (hQ:∀ h' tk,h'.DictOf (zA8 prog w) s.heap.objs.size (stoQ [] qs)→(∀ c o,s.heap.get? c=some o→h'.get? c=some o)→Q (.ref s.heap.objs.size) { s with heap:=h',toks:=tk }) :
  wpAny (model prog w) A (call (.type "dict") [.ref l]) Q E s:=by
 refine callType_codes F.kt_called_dict (F.kt_typeCall_dict_1 _) F.entry_dict_init (kt_code_dict_new (Q₁:=fun obj s1=>obj=.ref s.heap.objs.size∧s1={ s with heap:=s.heap.push { cls:=.type "dict",data:=.dict #[] } }) _ ⟨rfl,rfl⟩) fun obj s1 hq=>?_
 obtain ⟨rfl,rfl⟩:=hq
 have g0:(s.heap.push { cls:=Value.type "dict",data:=Data.dict #[] }).get? s.heap.objs.size=some { cls:=Value.type "dict",data:=Data.dict #[] }:=Heap.get?_push_size _ rfl
 have ty:Shared.TypeIs { s with heap:=s.heap.push { cls:=Value.type "dict",data:=Data.dict #[] } } (.ref s.heap.objs.size) "dict":=⟨_,g0,rfl⟩
 refine ⟨ty,F.args_dict_init_2 _ _,?_⟩
 refine wpAny_bind (wpAny_bind (wpAny_notOrdered_dict ty ?_))
 refine wpAny_bind (wpAny_pure (wpAny_pure ?_))
 have hl1:=Heap.get?_push_of_some { cls:=Value.type "dict",data:=Data.dict #[] } hl
 refine wpAny_bind (wpAny_typeOf ⟨_,hl1,rfl⟩ ?_)
 refine wpAny_bind (zHU hl1 hh fun h2 tk k2=>?_)
 refine wpAny_bind (wpAny_rule ?_)
 have hl2:=k2 _ _ hl1
 have il:h2.IsList l items:=⟨_,hl2,rfl,n,rfl⟩
 refine wpAny_bind (wpAny_pyIter_list il ?_)
 refine wpAny_pure ⟨zDX _,?_⟩
 have lt0:∀ c o,s.heap.get? c=some o→c<s.heap.objs.size:=fun c o e=>Heap.lt_size e
 have le2:=Heap.lt_size (k2 _ _ g0)
 have ex:∀ c o,s.heap.get? c=some o→(h2.push { cls:=.type "list_iterator",data:=.fields #[.ref l,.int 0 0] }).get? c=some o:=fun c o q=>Heap.get?_push_of_some _ (k2 _ _ (Heap.get?_push_of_some _ q))
 have d2:h2.DictOf (zA8 prog w) s.heap.objs.size []:=by
  obtain ⟨o,es,ep,q,r⟩:=(Heap.DictOf.new (knd:=zA8 prog w) s.heap)
  exact ⟨o,es,ep,k2 _ _ q,r⟩
 have Z:DL prog w h2.objs.size l s.heap.objs.size items qs s.heap:=⟨hn,he,hk,hp,⟨_,hl,rfl,n,rfl⟩,fun c o e=>⟨by have:=lt0 c o e; simp only [Addr] at *; lia,by have:=lt0 c o e; simp only [Addr] at *; lia⟩,by simp only [Addr] at *; lia⟩
 refine dloopL (A:=A.in1) Z hh qs.length 0 _ [] (by lia) (by simpa using hz) ⟨_,Heap.get?_push_size _ rfl,rfl,rfl⟩ (d2.push _) ex fun h' tk' dr ex'=>⟨rfl,hQ h' tk' (by simpa using dr) ex'⟩
end
section
variable {X:Cx}
theorem zGu:∀ (qs:List zDo) (ps:List (Key × V)),qs.map (·.k)=ps.map (·.1)→(∀ (i:Nat) (q:zDo) (p:Key × V),qs[i]?=some q→ps[i]?=some p→RelV p.2 q.v)→∀ {kvs:List (Key × V)}{vs:List (Key × Value)},KV kvs vs→KV (zBk kvs ps) (stoQ vs qs)
 | [],[],_,_,kvs,vs,r=>r
 | [],_::_,h,_,_,_,_=>by cases h
 | _::_,[],h,_,_,_,_=>by cases h
 | q::qs,p::ps,h,hr,kvs,vs,r=>by
  rw [List.map_cons,List.map_cons,List.cons.injEq] at h
  have:=zGu qs ps h.2 (fun i q p e1 e2=>hr (i+1) q p (by simpa using e1) (by simpa using e2)) (r.put q.k (hr 0 q p rfl rfl))
  show KV (zBk (putK kvs p.1 p.2) ps) (stoQ (stored vs q.k q.v) qs)
  rw [← h.1]
  exact this
noncomputable def Prs (H:Hp):List V→List (Key × V)→Prop:=Paired fun v (p:Key × V)=>∃ t,v=.ref t∧H t=some (.tup [kV p.1,p.2])
theorem prs_qs {pins:List (Addr × Obj)}{σ:St}{H:Hp}{s:Shared} (I:Inv X pins σ H s):∀ {xs:List V}{ps:List (Key × V)}{us:List Value},Prs H xs ps→Vals xs us→∃ qs:List zDo,us.length=qs.length∧(∀ (i:Nat) (q:zDo),qs[i]?=some q→us[i]?=some (Value.ref q.t))∧(∀ q∈qs,(zA8 X.prog X.w).is q.k q.key=true)∧(∀ q∈qs,q.at s.heap)∧qs.map (·.k)=ps.map (·.1)∧∀ (i:Nat) (q:zDo) (p:Key × V),qs[i]?=some q→ps[i]?=some p→RelV p.2 q.v:=by
 intro xs ps us h
 induction h generalizing us with
 | nil=>intro r; cases r; exact ⟨[],rfl,fun i q e=>(by simp at e),fun q h=>(by cases h),fun q h=>(by cases h),rfl,fun i q p e=>(by simp at e)⟩
 | @cons x p xs ps hx _ ih =>
  intro r
  obtain ⟨t,rfl,ht⟩:=hx
  cases r with
  | @cons _ u _ us ru r =>
   cases (ru)
   obtain ⟨qs,q1,q2,q3,q4,q5,q6⟩:=ih r
   obtain ⟨its,rv,⟨o,ho,hc,n,hd⟩,_⟩:=I.tuple (SqT.of ht)
   obtain ⟨k,v,rfl,rk,rvv⟩:=zJp rv
   refine ⟨⟨t,p.1,k,v⟩::qs,by simp [q1],fun i q e=>?_,fun q hq=>?_,fun q hq=>?_,by simp [q5],fun i q p' e1 e2=>?_⟩
   ·cases i with
    | zero=>simp at e; subst e; rfl
    | succ i=>exact q2 i q (by simpa using e)
   ·rcases List.mem_cons.mp hq with rfl | hq
    ·exact zGU rk
    ·exact q3 q hq
   ·rcases List.mem_cons.mp hq with rfl | hq
    ·exact ⟨o,n,ho,hc,hd⟩
    ·exact q4 q hq
   ·cases i with
    | zero=>simp at e1 e2; subst e1 e2; exact rvv
    | succ i=>exact q6 i q p' (by simpa using e1) (by simpa using e2)
theorem zK2 (hc:X.calm=true):zAw X (.type "dict") (fun vs H Q=>∃ (l:Addr) (xs:List V) (ps:List (Key × V)),vs=[.ref l]∧H l=some (.lst xs)∧Prs H xs ps∧xs.length≤sizeLine∧∀ q,H q=none→Q (.ref q) (upd H q (.dK (zBk [] ps)))):=by
 intro pins s σ H vs us Q I r h
 obtain ⟨l,xs,ps,rfl,hl,hp,hz,q⟩:=h
 obtain ⟨u,rfl,ru⟩:=zBm r
 cases ru
 obtain ⟨_,its,n,rv,_,e⟩:=I.lstM hl
 obtain ⟨qs,q1,q2,q3,q4,q5,q6⟩:=prs_qs I hp rv
 have hlen:qs.length≤sizeLine:=by rw [← q1,← rv.length]; exact hz
 refine zGa (I.ok.hd hc) e (by simpa using q1) (fun i q e=>by simpa using q2 i q e) q3 q4 hlen fun h' tk dr ex=>?_
 have km:=zGu qs ps q5 q6 .nil
 have hlo:=(zG1 (P:=X.prog) (w:=X.w) (H:=H) s.heap I.big).2.1
 refine ⟨.ref s.heap.objs.size,upd H s.heap.objs.size (.dK (zBk [] ps)),I.laid (t':=tk) ex (Nat.le_refl _) (zH8 ?_ hlo km dr),rfl,q _ (I.hok.fresh (Nat.le_refl _))⟩
 refine Nat.le_trans (zB2 ps []) ?_
 have:=congrArg List.length q5
 simp at this
 simp; lia
end
open PySem PySem.Spec PyProof.Rows
theorem zDY:∀ {ns:List Int}{us:List Value},Vals (ns.map V.int) us→∃ xs:List (Int × Tok),us=xs.map (fun p=>Value.int p.1 p.2)∧xs.map (·.1)=ns
 | [],us,h=>by cases h; exact ⟨[],rfl,rfl⟩
 | n::ns,us,h=>by
  cases h with
  | cons h1 h2 =>
   obtain ⟨t,rfl⟩:=h1
   obtain ⟨xs,rfl,e⟩:=zDY h2
   exact ⟨(n,t)::xs,rfl,by simp [e]⟩
section
variable {X:Cx}
theorem zMS {xs:List (Int × Tok)}{ns:List Int}{j:Nat}{v:Value} (e:xs.map (·.1)=ns) (h:(intItems xs.toArray)[j]?=some v):∃ M t,v=Value.int M t∧M=numAt xs.toArray j∧M∈ns:=by
 obtain ⟨t,rfl⟩:=intItems_at h
 refine ⟨_,t,rfl,rfl,?_⟩
 have hj:=by
  have:=(Array.getElem?_eq_some_iff.mp h).1
  simpa [intItems] using this
 rw [numAt_eq]
 subst e
 simp only [List.getD]
 rw [List.getElem?_eq_getElem (by simpa using hj)]
 exact List.getElem_mem _
theorem zMx (hc:X.calm=true):zAw X (.builtin "min") (fun vs H Q=>∃ (p:Addr) (ns:List Int),vs=[.ref p]∧SqL X.K H p (ns.map V.int)∧0<ns.length∧∀ M,M∈ns→(∀ a∈ns,M≤a)→Q (.int M) H):=by
 intro pins s σ H xs us Q I r h
 obtain ⟨p,ns,rfl,hq,hl,q⟩:=h
 obtain ⟨u,rfl,ru⟩:=zBm r
 cases ru
 obtain ⟨its,rv,pl,hz⟩:=I.list hq
 obtain ⟨ps,rfl,e⟩:=zDY rv
 have hlen:ps.length=ns.length:=by rw [← e]; simp
 have hi:s.heap.IsList p (intItems ps.toArray):=by
  have:=pl.isList
  simpa [intItems] using this
 refine min_intList (I.ok.hd hc) hi (by simp; lia) fun v h' tk hv k=>?_
 obtain ⟨M,t,rfl,hM,hm⟩:=zMS e hv
 refine ⟨.int M,H,I.kept k,⟨t,rfl⟩,q M hm fun a ha=>?_⟩
 obtain ⟨j,hj,rfl⟩:=List.getElem_of_mem ha
 have:=(argBest_lt (numAt ps.toArray) (ps.toArray.size - 1)).2 j (by simp; lia)
 rw [hM]
 refine Int.le_trans this ?_
 rw [numAt_eq,List.toList_toArray,e]
 simp [List.getD,hj]
theorem zMz (hc:X.calm=true):zAw X (.builtin "max") (fun vs H Q=>∃ (p:Addr) (ns:List Int),vs=[.ref p]∧SqL X.K H p (ns.map V.int)∧0<ns.length∧∀ M,M∈ns→(∀ a∈ns,a≤M)→Q (.int M) H):=by
 intro pins s σ H xs us Q I r h
 obtain ⟨p,ns,rfl,hq,hl,q⟩:=h
 obtain ⟨u,rfl,ru⟩:=zBm r
 cases ru
 obtain ⟨its,rv,pl,hz⟩:=I.list hq
 obtain ⟨ps,rfl,e⟩:=zDY rv
 have hlen:ps.length=ns.length:=by rw [← e]; simp
 have hi:s.heap.IsList p (intItems ps.toArray):=by
  have:=pl.isList
  simpa [intItems] using this
 refine max_intList (I.ok.hd hc) hi (by simp; lia) fun v h' tk hv k=>?_
 obtain ⟨M,t,rfl,hM,hm⟩:=zMS e hv
 refine ⟨.int M,H,I.kept k,⟨t,rfl⟩,q M hm fun a ha=>?_⟩
 obtain ⟨j,hj,rfl⟩:=List.getElem_of_mem ha
 have:=(argBest_gt (numAt ps.toArray) (ps.toArray.size - 1)).2 j (by simp; lia)
 rw [hM]
 refine Int.le_trans ?_ this
 rw [numAt_eq,List.toList_toArray,e]
 simp [List.getD,hj]
end
open PySem PySem.Spec PyProof.Rows
section
variable {X:Cx}
theorem zKz:∀ {ss:List Str}{its:List Value},Vals (ss.map V.str) its→∃ l:List (Str × Tok),its=strValues l∧l.map (·.1)=ss
 | [],its,h=>by cases h; exact ⟨[],rfl,rfl⟩
 | z::ss,its,h=>by
  obtain ⟨u,r,rfl,ru,rr⟩:=h.cinv
  obtain ⟨t,rfl⟩:=ru
  obtain ⟨l,rfl,e⟩:=zKz rr
  exact ⟨(z,t)::l,rfl,by rw [List.map_cons,e]⟩
theorem zDM:∀ l:List (Str × Tok),Vals ((l.map (·.1)).map V.str) (strValues l)
 | []=>.nil
 | p::l=>.cons ⟨p.2,rfl⟩ (zDM l)
noncomputable def rJoin:V→List V→Hp→VK→Prop:=fun x vs H Q=>∃ z l ss,x=.str z∧vs=[.ref l]∧H l=some (.lst (ss.map V.str))∧JoinOk z ss=true∧Q (.str (Txt.join z ss)) H
theorem mt_join:MtM X "str.join" rJoin:=by
 intro pins s σ H x vs v us Q I rx rv h
 obtain ⟨z,l,ss,rfl,rfl,hH,hok,q⟩:=h
 obtain ⟨t,rfl⟩:=rx
 obtain ⟨u,rfl,ru⟩:=rv.one
 cases ru
 obtain ⟨_,its,n,r,_,e⟩:=I.lstM hH
 obtain ⟨ps,rfl,hp⟩:=zKz r
 exact SC.join ⟨_,e,rfl,_,rfl⟩ hp hok fun t' k=>⟨.str _,H,I.tok k,⟨_,rfl⟩,q⟩
noncomputable def rFind:V→List V→Hp→VK→Prop:=fun x vs H Q=>∃ z y,x=.str z∧vs=[.str y]∧Q (.int (Txt.find z y)) H
theorem mt_find:MtM X "str.find" rFind:=by
 intro pins s σ H x vs v us Q I rx rv h
 obtain ⟨z,y,rfl,rfl,q⟩:=h
 obtain ⟨t,rfl⟩:=rx
 obtain ⟨u,rfl,ru⟩:=rv.one
 obtain ⟨t',rfl⟩:=ru
 exact call_gives PySem.F.slot_str_find (typeIs_str _ _ _) PySem.F.entry_str_find (PySem.F.args_str_find_2 _ _) (gives_str_find z y t t') ⟨.int _,H,I.tok _,⟨_,rfl⟩,q⟩
open Builtin Builtin.Str in
noncomputable def rSplit:V→List V→Hp→VK→Prop:=fun x vs H Q=>∃ z y,x=.str z∧vs=[.str y]∧(y.length == 0)=false∧z.length≤sizeLine∧(partsBetween z (occurrences z y 0 z.length (z.length+1)) y.length).length≤sizeLine∧∀ l,H l=none→Q (.ref l) (upd H l (.lst ((Txt.split z y).map V.str)))
open Builtin Builtin.Str in
theorem zNZ:MtM X "str.split" rSplit:=by
 intro pins s σ H x vs v us Q I rx rv h
 obtain ⟨x,y,rfl,rfl,hy,hsz,hsz2,q⟩:=h
 obtain ⟨t,rfl⟩:=rx
 obtain ⟨u,rfl,ru⟩:=rv.one
 obtain ⟨u,rfl⟩:=ru
 have q:=q _ (I.hok.fresh (Nat.le_refl s.heap.objs.size))
 have one:∀ z:Str,((1:Nat)≤sizeLine):=fun _=>by rw [sizeLine_eq]; decide
 have fin:∀ (l:List (Str × Tok)) (k:Nat),l.length≤sizeLine→l.map (·.1)=Txt.split x y→EP X pins σ Q (.ref s.heap.objs.size) { s with heap:=s.heap.push { cls:=.type "list",data:=.seq (strValues l).toArray 0 },toks:=k }:=fun l k hz e=>by
  rw [← e] at q
  refine ⟨.ref s.heap.objs.size,_,I.laid (t':=k) (fun b o hb=>Heap.get?_push_of_some _ hb) (Nat.le_refl _) (show zAV X.prog X.w _ _ _ (.lst ((l.map (·.1)).map V.str)) from ⟨by rw [List.length_map,List.length_map]; exact hz,_,_,zDM l,Heap.get?_push_size _ rfl⟩),rfl,q⟩
 cases h1:(decide (x.length<y.length)||decide (strKind x<strKind y))
 ·cases hf:(occurrences x y 0 x.length (x.length+1)).isEmpty
  ·refine call_meets PySem.F.slot_str_split (typeIs_str _ _ _) PySem.F.entry_str_split (PySem.F.args_str_split_2 _ _) (meets_str_split_sep x y t u h1 hy hf hsz hsz2) ?_
   show wants _ X.xe _ { s with toks:=_,heap:=s.heap.push { cls:=.type "list",data:=.seq (strsFrom s.toks (partsBetween x (occurrences x y 0 x.length (x.length+1)) y.length)).toArray } }
   rw [strsFrom_eq]
   have e:(numbered s.toks (partsBetween x (occurrences x y 0 x.length (x.length+1)) y.length)).map (·.1)=Txt.split x y:=(numbered_texts _ _).trans ((if_neg (ne_true_of_eq_false h1)).trans (if_neg (ne_true_of_eq_false hf))).symm
   refine fin _ _ ?_ e
   have:=congrArg List.length (numbered_texts s.toks (partsBetween x (occurrences x y 0 x.length (x.length+1)) y.length))
   rw [List.length_map] at this
   lia
  ·exact call_meets PySem.F.slot_str_split (typeIs_str _ _ _) PySem.F.entry_str_split (PySem.F.args_str_split_2 _ _) (meets_str_split_not_found x y t u h1 hy hf)
    (fin [(x,t)] s.toks (one x) ((if_neg (ne_true_of_eq_false h1)).trans (if_pos hf)).symm)
 ·exact call_meets PySem.F.slot_str_split (typeIs_str _ _ _) PySem.F.entry_str_split (PySem.F.args_str_split_2 _ _) (meets_str_split_cannot_occur x y t u h1)
   (fin [(x,t)] s.toks (one x) (if_pos h1).symm)
noncomputable def tFmt (ta:TE):TE:=fun σ H Q=>ta σ H fun x H1=>(∃ i,x=.int i∧i.natAbs.log2<1920∧Q (.str (toString i)) H1)∨∃ z,x=.str z∧z.length≤sizeLine∧Q (.str z) H1
theorem pe_fmt {e:Expr}{ta:TE}{pos:Pos} (ha:PE X e ta):PE X (.FormattedValue e (-1) none pos) (tFmt ta):=by
 intro pins s σ H Q I h
 refine wpAny_FormattedValue_plain (thn (ha pins s σ H _ I h) fun v s1 ⟨x,H1,I1,r1,q1⟩=>?_)
 rcases q1 with ⟨i,rfl,hl,q⟩ | ⟨z,rfl,hz,q⟩
 ·obtain ⟨t,rfl⟩:=r1
  exact wpAny_formatField_int hl ⟨.str _,H1,I1.tok _,⟨_,rfl⟩,q⟩
 ·obtain ⟨t,rfl⟩:=r1
  exact wpAny_formatField_str ⟨.str _,H1,I1,⟨_,rfl⟩,q⟩ ⟨.str _,H1,I1.tok _,⟨_,rfl⟩,q⟩ hz
inductive PEs (X:Cx):List Expr→List TE→Prop
 | nil:PEs X [] []
 | cons {e es t ts}:PE X e t→PEs X es ts→PEs X (e::es) (t::ts)
noncomputable def tJS:List TE→Str→TE
 | [],acc=>fun _ H Q=>acc.length≤sizeLine∧Q (.str acc) H
 | t::ts,acc=>fun σ H Q=>t σ H fun x H1=>∃ y,x=.str y∧(acc++y).length≤sizeLine∧tJS ts (acc++y) σ H1 Q
theorem zJ7 {pins:List (Addr × Obj)}{σ:St}{Q:VK}:∀ {es:List Expr}{ts:List TE},PEs X es ts→∀ (acc:Str) (H:Hp) (s:Shared),Inv X pins σ H s→tJS ts acc σ H Q →
  Joins (model X.prog X.w) X.A X.xe (evalEach es X.env) acc (fun out s₁=>out.length≤sizeLine∧EP X pins σ Q (.str out s₁.toks) { s₁ with toks:=s₁.toks+1 }) s
 | _,_,.nil,acc,H,s,I,h=>⟨h.1,.str acc,H,I.tok _,⟨_,rfl⟩,h.2⟩
 | e::es,t::ts,.cons he hes,acc,H,s,I,h=>by
  show wpAny _ _ (eval e X.env) _ _ s
  refine thn (he pins s σ H _ I h) fun v s1 ⟨x,H1,I1,r1,y,hx,hl,q⟩=>?_
  subst hx
  obtain ⟨t,rfl⟩:=r1
  exact ⟨y,t,rfl,hl,zJ7 hes _ H1 s1 I1 q⟩
theorem zL4 {e1 e2:Expr}{es:List Expr}{ts:List TE}{pos:Pos} (h:PEs X (e1::e2::es) ts):PE X (.JoinedStr (e1::e2::es) pos) (tJS ts Str.empty):=by
 intro pins s σ H Q I q
 exact wpAny_JoinedStr (zJ7 h _ H s I q)
end
open PySem PySem.Spec PyProof.Rows
section
variable {X:Cx}
noncomputable def rSlS:V→Option Int→Option Int→Hp→VK→Prop:=fun x lo hi H Q=>∃ z,x=.str z∧z.length≤sizeLine∧Q (.str (Txt.slice z lo hi)) H
theorem zL7 {v:Value}{o:Option Int} (h:IsPart v o):∃ p:Option (Int × Tok),v=partValue p∧p.map (·.1)=o:=by
 cases h with
 | none=>exact ⟨none,rfl,rfl⟩
 | int i t=>exact ⟨some (i,t),rfl,rfl⟩
theorem sl_str:SlR X rSlS:=by
 intro pins s σ H x v vl vu lo hi sl Q I rx hs pl pu h
 obtain ⟨z,rfl,hz,q⟩:=h
 obtain ⟨t,rfl⟩:=rx
 obtain ⟨l,rfl,rfl⟩:=zL7 pl
 obtain ⟨u,rfl,rfl⟩:=zL7 pu
 refine ⟨"str",_,PySem.F.slot_str_getitem.lookup,typeIs_str _ _ _,wpAny_getItem_str_slice (l:=l) (u:=u) (st:=none) hs rfl ?_⟩
 exact post_val_or_str ⟨Nat.le_trans (Txt.slice_le z _ _) hz,fun t' k=>⟨.str _,H,I.tok k,⟨_,rfl⟩,q⟩⟩
theorem zMB:zAw X (.type "int") (fun xs H Q=>∃ z n,xs=[.str z]∧PySem.intText? z=some n∧z.length≤640∧Q (.int n) H):=by
 intro pins s σ H xs us Q I r h
 obtain ⟨z,n,rfl,hn,hl,q⟩:=h
 obtain ⟨u,rfl,t,rfl⟩:=zBm r
 exact W.KIN.call_text hn hl ⟨.int n,H,I.tok _,⟨_,rfl⟩,q⟩
end
open PySem PySem.Spec PyProof.Rows
section
variable {X:Cx}
open Builtin Builtin.Str in
noncomputable def zP3 (z y:Str):Bool:=0+y.length≤z.length&&subAt z y 0
noncomputable def rStart:V→List V→Hp→VK→Prop:=fun x vs H Q=>∃ z y,x=.str z∧vs=[.str y]∧Q (.bl (zP3 z y)) H
theorem zNY:MtM X "str.startswith" rStart:=by
 intro pins s σ H x vs v us Q I rx rv h
 obtain ⟨z,y,rfl,rfl,q⟩:=h
 obtain ⟨t,rfl⟩:=rx
 obtain ⟨u,rfl,ru⟩:=rv.one
 obtain ⟨t',rfl⟩:=ru
 exact call_gives PySem.F.slot_str_startswith (typeIs_str _ _ _) PySem.F.entry_str_startswith (PySem.F.args_str_startswith_2 _ _) (gives_str_startswith z y t t') ⟨.bl _,H,I,rfl,q⟩
open Builtin Builtin.Str in
noncomputable def zIO (x y:Str) (k:Int):List Str :=
 if (decide (x.length<y.length)||decide (strKind x<strKind y))=true then [x] else if (occurrences x y 0 x.length (limitOf x k)).isEmpty=true then [x] else partsBetween x (occurrences x y 0 x.length (limitOf x k)) y.length
open Builtin Builtin.Str in
noncomputable def zQi:V→List V→Hp→VK→Prop:=fun x vs H Q=>∃ z y k,x=.str z∧vs=[.str y,.int k]∧(decide (k < -(2 ^ 63:Int))||decide (k≥2 ^ 63))=false∧(y.length == 0)=false∧z.length≤sizeLine∧(partsBetween z (occurrences z y 0 z.length (limitOf z k)) y.length).length≤sizeLine∧∀ l,H l=none→Q (.ref l) (upd H l (.lst ((zIO z y k).map V.str)))
open Builtin Builtin.Str in
theorem zLm:MtM X "str.split" zQi:=by
 intro pins s σ H x vs v us Q I rx rv h
 obtain ⟨x,y,k,rfl,rfl,hk,hy,hsz,hsz2,q⟩:=h
 obtain ⟨t,rfl⟩:=rx
 obtain ⟨u,u2,rfl,ru,ru2⟩:=rv.two
 obtain ⟨u,rfl⟩:=ru
 obtain ⟨u2,rfl⟩:=ru2
 have q:=q _ (I.hok.fresh (Nat.le_refl s.heap.objs.size))
 have one:(1:Nat)≤sizeLine:=by rw [sizeLine_eq]; decide
 have fin:∀ (l:List (Str × Tok)) (m:Nat),l.length≤sizeLine→l.map (·.1)=zIO x y k→EP X pins σ Q (.ref s.heap.objs.size) { s with heap:=s.heap.push { cls:=.type "list",data:=.seq (strValues l).toArray 0 },toks:=m }:=fun l m hz e=>by
  rw [← e] at q
  refine ⟨.ref s.heap.objs.size,_,I.laid (t':=m) (fun b o hb=>Heap.get?_push_of_some _ hb) (Nat.le_refl _) (show zAV X.prog X.w _ _ _ (.lst ((l.map (·.1)).map V.str)) from ⟨by rw [List.length_map,List.length_map]; exact hz,_,_,zDM l,Heap.get?_push_size _ rfl⟩),rfl,q⟩
 unfold zIO at fin
 cases h1:(decide (x.length<y.length)||decide (strKind x<strKind y))
 ·cases hf:(occurrences x y 0 x.length (limitOf x k)).isEmpty
  ·rw [if_neg (ne_true_of_eq_false h1),if_neg (ne_true_of_eq_false hf)] at fin
   refine call_meets PySem.F.slot_str_split (typeIs_str _ _ _) PySem.F.entry_str_split (PySem.F.args_str_split_3 _ _ _) (meets_str_split_sep_max x y k t u u2 hk h1 hy hf hsz hsz2) ?_
   show wants _ X.xe _ { s with toks:=_,heap:=s.heap.push { cls:=.type "list",data:=.seq (strsFrom s.toks (partsBetween x (occurrences x y 0 x.length (limitOf x k)) y.length)).toArray } }
   rw [strsFrom_eq]
   have e:(numbered s.toks (partsBetween x (occurrences x y 0 x.length (limitOf x k)) y.length)).map (·.1)=_:=numbered_texts _ _
   refine fin _ _ ?_ e
   have:=congrArg List.length e
   rw [List.length_map] at this
   lia
  ·rw [if_neg (ne_true_of_eq_false h1),if_pos hf] at fin
   exact call_meets PySem.F.slot_str_split (typeIs_str _ _ _) PySem.F.entry_str_split (PySem.F.args_str_split_3 _ _ _) (meets_str_split_max_not_found x y k t u u2 hk h1 hy hf) (fin [(x,t)] s.toks one rfl)
 ·rw [if_pos h1] at fin
  exact call_meets PySem.F.slot_str_split (typeIs_str _ _ _) PySem.F.entry_str_split (PySem.F.args_str_split_3 _ _ _) (meets_str_split_max_cannot_occur x y k t u u2 hk h1) (fin [(x,t)] s.toks one rfl)
end
open PySem PySem.Spec PyProof.Rows
section
variable {P:Program}{w:World}{h:Heap}{X:Cx}{pins:List (Addr × Obj)}{σ:St}{H:Hp}{s:Shared}{a C dx:Addr}{fs:List (Str × V)}{f:Str}{v:V}{A:Around}{E:Value→Shared→Prop}
theorem insR (hok:HOk P w H h) (e:Rd H a (.ins C dx fs)):∃ mA,ObjM h a dx C mA∧∀ f,RelO (fs.lookup f) (mA f):=by
 obtain ⟨d,z,ne,ob,mA,n,r,q⟩:=(show zAV P w H h a (.ins C dx fs) from e.ok hok)
 exact ⟨mA,⟨ob,n,ne⟩,r⟩
theorem zOA {b:Bool}{Q:Value→Shared→Prop} (I:Inv X pins σ H s) (e:Rd H a (.ins C dx fs)) (c:Cls X.K C) (n:zBW X.K C f) (l:fs.lookup f=some v)
  (h:∀ u s',Inv X pins σ H s'→RelV v u→Q u s'):wpAny (model X.prog X.w) A (getAttr (.ref a) f b) Q E s:=by
 obtain ⟨mA,O,r⟩:=insR I.hok e
 obtain ⟨u,hu,ru⟩:=RelO.some_of (v:=v) (o:=mA f) (by rw [← l]; exact r f)
 exact get_map I.kIn O (c.get f) c.hd n hu (zLN ru) (h u _ (I.tok _) ru)
theorem zOz {m:Str}{g:Addr}{pl:Sem Bool}{Q:Value × List Value→Shared→Prop} (I:Inv X pins σ H s) (e:Rd H a (.ins C dx fs)) (c:Cls X.K C) (k:Meth X.K C m g) (l:fs.lookup m=none)
  (h:Q (.ref g,[.ref a]) s):wpAny (model X.prog X.w) A (getMethod (.ref a) m pl) Q E s:=by
 obtain ⟨mA,O,r⟩:=insR I.hok e
 have hn:mA m=none:=RelO.none_of (by rw [← l]; exact r m)
 exact zOB I.kIn O (c.get m) k.at_ k.fn hn h
theorem Inv.freezeI (I:Inv X pins σ H s) (e:H a=some (.ins C dx fs)):∃ o,Inv X pins σ (upd H a (.frz o (.ins C dx fs))) s:=by
 obtain ⟨d,z,ne,ob,mA,n,r,q⟩:=(show zAV X.prog X.w H s.heap a (.ins C dx fs) from I.hok a _ e)
 refine ⟨W.instObj C dx,?_⟩
 have mu:Mut (H a):=by rw [e]; trivial
 have hok:HOk X.prog X.w (upd H a (.frz (W.instObj C dx) (.ins C dx fs))) s.heap:=I.hok.write mu (.inl rfl) (fun b u _ q=>q) ⟨_,ob⟩ ⟨ob,by rw [zA5 ne]; exact d,z,ne,ob,mA,n,r,q⟩
 exact I.un (t':=s.toks) (Un.write mu (.inl rfl) (fun b u _ q=>q) ⟨_,ob⟩) hok
end
noncomputable def tFldR (K:W.Frag) (ta:TE) (f:Str):TE:=fun σ H Q=>ta σ H fun x H1=>∃ a C dx fs v,x=.ref a∧Rd H1 a (.ins C dx fs)∧Cls K C∧zBW K C f∧fs.lookup f=some v∧Q v H1
noncomputable def tMethR (C:Addr) (m:Str) (sp:Sp) (dvs:List V) (E:XK) (ta:TE) (t:TA):TE:=fun σ H Q=>ta σ H fun x H1=>∃ a dx fs,x=.ref a∧Rd H1 a (.ins C dx fs)∧fs.lookup m=none ∧
 t σ H1 fun vs H2=>sp (x::(vs++dvs)) H2 Q E
section
variable {X:Cx}{CX:CXT}{k:Nat}{f C:Addr}{fd:FuncData}{ps:List Str}{sp:Sp}{dvs:List V}{ds:List Value}{E:XK}{x m:Str}{p pos apos:Pos}{e o:Expr}{es:List Expr}{ta:TE}{t:TA}
theorem zQz {fl:Str} (he:PE X e ta) (hb:attributeBase e fl X.env (eval e X.env)=eval e X.env):PE X (.Attribute e fl pos) (tFldR X.K ta fl):=by
 intro pins s σ H Q I h
 refine attr_of hb (thn (he pins s σ H _ I h) fun u s1 ⟨x,H1,I1,rx,a,C,dx,fs,v,ex,ea,c,n,l,q⟩=>?_)
 subst ex
 obtain rfl:u=Value.ref a:=rx
 exact zOA I1 ea c n l fun u' s2 I2 ru=>⟨v,H1,I2,ru,q⟩
theorem zFM {pl:Sem Bool} (he:PE X o ta) (c:Cls X.K C) (hm:Meth X.K C m f) (F:FnOk X.prog X.w X.K X.mg X.base CX k f fd ps sp) (hr:Room k X.A) (hb:zBN X.K fd ps ds) (hd:Vals dvs ds) (hx:zB1 CX X E) (ha:PA X (e::es) t)
  (hst:starEach (e::es) X.env=(false,eval e X.env)::starEach es X.env) (hpl:(backTo pos (starEach es X.env)).any (·.1)=false)
  (ht:eval (.Call (.Attribute o m apos) (e::es) [] pos) X.env=(do
   let ov ← eval o X.env
   standAt apos.atName
   let (f,first) ← holding [ov] (getMethod ov m pl)
   callWith pos f first (backTo pos (starEach (e::es) X.env)) (backToKw pos (keywordEach [] X.env)))) :
  PE X (.Call (.Attribute o m apos) (e::es) [] pos) (tMethR C m sp dvs E ta t):=by
 intro pins s σ H Q I h
 refine W.methodCall_KW (pl:=pl) (thn (he pins s σ H _ I h) fun u s1 ⟨x,H1,I1,rx,a,dx,fs,ex,ea,l,q⟩=>?_) ht
 subst ex
 obtain rfl:u=Value.ref a:=rx
 refine zOz I1 ea c hm l ?_
 refine W.callWith_K (first:=[.ref a]) (h₀:=X.base) I.ok.mod.kin hm.kp (thn (ha pos pins s1 σ H1 _ I1 q) fun us s2 ⟨vs,H2,I2,r,q2⟩=>⟨I2.kIn,?_⟩) hst hpl
 exact zPc (us:=.ref a::us) (vs:=.ref a::vs) F hr hb hd hx I2 (.cons rfl r) q2
end
open PySem PySem.Spec PyProof.Rows
noncomputable def zI3 (f:Str) (p1 p2 p3 p4:Pos):List Stmt:=[.Assign [.Attribute (.Name "self" p1) f p2] (.Dict [] [] p3) p4]
noncomputable def spIni (C:Addr) (f:Str):Sp:=fun vs H Q _=>∃ (p dx:Addr),vs=[.ref p]∧H p=some (.ins C dx [])∧∀ d,H d=none→Q .non (upd (upd H d (.dK [])) p (.ins C dx [(f,.ref d)]))
structure DkOk (K:W.Frag) (mg:Str→Option Value) (N f:Str) (C g:Addr):Prop where
 cl:Cls K C
 no:zBW K C f
 mgC:mg N=some (.ref C)
 mak:Mk K C g
 ini:∃ q st fd p1 p2 p3 p4,Fun K "__init__" q st g fd∧zBw ["self"] ["self"] (zA1 st)∧zBN K fd ["self"] []∧zAc st=zI3 f p1 p2 p3 p4∧(zA1 st).names.lookup ("self":Str)=some NameKind.local
section
variable {P:Program}{w:World}{K:W.Frag}{mg:Str→Option Value}{base:Heap}
theorem ok_ini {g C:Addr}{fd:FuncData}{f q:Str}{st:Stmt}{p1 p2 p3 p4:Pos} (F:Fun K "__init__" q st g fd) (S:zBw ["self"] ["self"] (zA1 st)) (cl:Cls K C) (no:zBW K C f) (hb:zAc st=zI3 f p1 p2 p3 p4) (hl:(zA1 st).names.lookup ("self":Str)=some NameKind.local):FnOk P w K mg base CX0 1 g fd ["self"] (spIni C f):=by
 refine F.ok S (fun vs H Q E h=>?_) (fun cdv A outer s H vs Q E hr h=>?_)
 ·obtain ⟨p,dx,rfl,_⟩:=h
  rfl
 ·obtain ⟨p,dx,rfl,hp,k⟩:=h
  rw [hb]
  refine ⟨_,zQp (ps_fld (zFm (i:=0) rfl (.inl hl) (by decide) (by decide)) zIV rfl),?_⟩
  intro d hd
  have npd:p≠d:=zAm hp hd
  exact ⟨_,rfl,p,C,dx,[],rfl,(by rw [zA5 npd]; exact hp),cl,no,(by show 0<1000; decide),k d hd⟩
end
noncomputable def tDesk (C:Addr) (f:Str):TE:=fun σ H Q=>∀ x dx d,H x=none→H dx=none→H d=none→dx≠x→d≠x→d≠dx →
 Q (.ref x) (upd (upd (upd (upd (upd H dx (.own x)) x (.ins C dx [])) d (.dK [])) x (.ins C dx [(f,.ref d)])) x (.frz (W.instObj C dx) (.ins C dx [(f,.ref d)])))
section
variable {X:Cx}{N f:Str}{C g:Addr}{p pos:Pos}
theorem Inv.freezeJ {pins:List (Addr × Obj)}{σ:St}{H:Hp}{s:Shared}{a dx:Addr}{fs:List (Str × V)} (I:Inv X pins σ H s) (e:H a=some (.ins C dx fs)):Inv X pins σ (upd H a (.frz (W.instObj C dx) (.ins C dx fs))) s:=by
 obtain ⟨o,I'⟩:=I.freezeI e
 have h:=(I'.hok a _ zA4)
 obtain ⟨d,z,ne,ob,mA,n,r,q⟩:=(show zAV X.prog X.w H s.heap a (.ins C dx fs) from I.hok a _ e)
 obtain ⟨g1,_⟩:=h
 rw [ob] at g1
 cases g1
 exact I'
theorem zQB (D:DkOk X.K X.mg N f C g) (hr:Room 2 X.A) (hg:Gl X N) (hx:zB1 CX0 X E0) (hdb:(N == ("__debug__":Str))=false):PE X (.Call (.Name N p) [] [] pos) (tDesk C f):=by
 obtain ⟨q,st,fd,p1,p2,p3,p4,F,S,hb,he,hl⟩:=D.ini
 have G:FnOk X.prog X.w X.K X.mg X.base CX0 1 g fd ["self"] (spIni C f):=ok_ini F S D.cl D.no he hl
 intro pins s σ H Q I h
 have m:=zNI (p:=p) (pos:=pos) D.mak G hr hg D.mgC hb .nil hx hdb
 refine thn (m pins s σ H (fun v H2=>∃ x dx d,H x=none∧H dx=none∧H d=none∧dx≠x∧d≠x∧d≠dx∧v=.ref x∧H2=upd (upd (upd (upd H dx (.own x)) x (.ins C dx [])) d (.dK [])) x (.ins C dx [(f,.ref d)])) I ?_) ?_
 ·intro x dx hx hdx ne
  refine ⟨x,dx,rfl,zA4,fun d hd=>⟨rfl,x,dx,d,hx,hdx,?_,ne,?_,?_,rfl,rfl⟩⟩
  ·by_cases e:d=x
   ·subst e; rw [zA4] at hd; cases hd
   ·rw [zA5 e] at hd
    by_cases e2:d=dx
    ·subst e2; rw [zA4] at hd; cases hd
    ·rw [zA5 e2] at hd; exact hd
  ·rintro rfl; rw [zA4] at hd; cases hd
  ·rintro rfl; rw [zA5 ne,zA4] at hd; cases hd
 ·rintro u s1 ⟨v,H2,I2,rv,x,dx,d,h1,h2,h3,n1,n2,n3,rfl,rfl⟩
  exact ⟨_,_,I2.freezeJ zA4,rv,h x dx d h1 h2 h3 n1 n2 n3⟩
end
open PySem PySem.Spec PyProof.Rows
def Trc (h:Heap) (e T:Addr) (cls:Value):Prop:=∃ oe vs oT ts,h.get? e=some oe∧oe.cls=cls∧oe.data=.fields vs∧vs[1]?=some (.ref T)∧T≠e∧h.get? T=some oT∧oT.data=.fields ts∧ts[3]?=some .none
structure Lft (l:List Env) (wr:List Addr) (e:Addr) (cls:Value) (h h':Heap):Prop where
 keep:∀ b o,h.get? b=some o→b∉wr→b∉frs l→h'.get? b=some o
 slot:∀ b o,h.get? b=some o→b∉wr→∃ sl,h'.get? b=some { o with slots:=sl }
 there:∀ b o,h.get? b=some o→∃ o',h'.get? b=some o'
 tr:∃ T,h.objs.size≤T∧Trc h' e T cls
section
variable {M:Model}{A:Around}{E:Value→Shared→Prop}{s:Shared}{base:Heap}{env:Env}{outer:List Env}{L e:Addr}{oe:Obj}{vs:Array Value}{Q:Unit→Shared→Prop}
theorem zD7 {h₁:Heap}{pl:List Value}{head:Value}{wr:List Addr}{h₀:Heap} (hpl:IsPlace pl) (hs:Heap.SlotsOnly (frs (env::outer)) h₀ h₁) (he:h₁.get? e=some oe) (hd:oe.data=.fields vs) (hsz:1<vs.size) (hew:e∈wr)
  (hQ:∀ h',Lft (env::outer) wr e oe.cls h₀ h'→Q () { s with heap:=h' }) :
  wpAny M A (EntryCells.newEntry head (.ref L) .none (rawInt L) .none pl >>= fun b=>setField (.ref e) 1 b) (fun _ s'=>wpAny M A (setFlight (.ref e) none) Q E s') E { s with heap:=h₁ }:=by
 obtain ⟨ts,hts⟩:∃ ts,([head,.ref L,.none,rawInt L,.none]++(if pl.isEmpty then List.replicate 6 Value.none else pl)).toArray=ts:=⟨_,rfl⟩
 have t3:3<ts.size:=by rw [← hts,List.size_toArray,List.length_append]; simp only [List.length_cons]; lia
 refine wpAny_bind (wpAny_newObj_type ?_ (hpl.sizeOk5 _ _ _ _ _))
 rw [hts]
 have e2:=Heap.get?_push_of_some { cls:=.type "traceback",dict:=none,data:=.fields ts } he
 refine wpAny_setField e2 hd hsz ?_
 have ne:=Nat.ne_of_gt (Heap.lt_size he)
 have d3:=Obj.data_mapFields hd (·.setIfInBounds 1 (Value.ref h₁.objs.size))
 have e3:=Heap.get?_update_self (Obj.mapFields (·.setIfInBounds 1 (Value.ref h₁.objs.size))) e2 (Obj.isFreed_of_fields d3)
 have T3:=(Heap.get?_update_other (h₁.push { cls:=.type "traceback",dict:=none,data:=.fields ts }) (Obj.mapFields (·.setIfInBounds 1 (Value.ref h₁.objs.size))) (Ne.symm ne)).trans (Heap.get?_push_size h₁ rfl)
 refine wpAny_setFlight_none e3 d3 (by simp [hsz]) T3 rfl t3 (hQ _ ?_)
 have keep:∀ b o,b≠e→h₁.get? b=some o→(((h₁.push { cls:=.type "traceback",dict:=none,data:=.fields ts }).update e (Obj.mapFields (·.setIfInBounds 1 (Value.ref h₁.objs.size)))).update h₁.objs.size (Obj.mapFields (·.setIfInBounds 3 .none))).get? b=some o:=fun b o hbe hb=>by
  rw [Heap.get?_update_other _ _ (Nat.ne_of_gt (Heap.lt_size hb)),Heap.get?_update_other _ _ (Ne.symm hbe)]
  exact Heap.get?_push_of_some _ hb
 have eE:=(Heap.get?_update_other ((h₁.push { cls:=.type "traceback",dict:=none,data:=.fields ts }).update e (Obj.mapFields (·.setIfInBounds 1 (Value.ref h₁.objs.size)))) (Obj.mapFields (·.setIfInBounds 3 .none)) ne).trans e3
 have ew:∀ b:Addr,b∉wr→b≠e:=fun b hb z=>hb (z▸hew)
 refine ⟨fun b o hb n1 n2=>keep b o (ew b n1) ((hs.2.1 b n2).trans hb),fun b o hb n1=>?_,fun b o hb=>?_,h₁.objs.size,Nat.le_of_eq hs.1.symm,_,_,_,_,eE,Obj.cls_mapFields _ _,d3,by simp [hsz],ne,Heap.get?_update_self _ T3 (Obj.isFreed_of_fields (Obj.data_mapFields rfl _)),Obj.data_mapFields rfl _,by simp [t3]⟩
 ·obtain ⟨sl,q⟩:=hs.2.2 b o hb
  exact ⟨sl,keep b _ (ew b n1) q⟩
 ·obtain ⟨sl,q⟩:=hs.2.2 b o hb
  by_cases z:b=e
  ·exact ⟨_,by rw [z]; exact eE⟩
  ·exact ⟨_,keep b _ z q⟩
theorem zJG (hfr:A.frames=some (env::outer)) (hl:s.heap.FunFrames base (env::outer)) (hf:env.frame=some L) (he:s.heap.get? e=some oe) (hd:oe.data=.fields vs) (h1:vs[1]?=some .none)
  (hQ:∀ h',Lft (env::outer) [e] e oe.cls s.heap h'→Q () { s with heap:=h' }):wpAny M A (noteFrame (.ref e) env) (fun _ s'=>wpAny M A (setFlight (.ref e) none) Q E s') E s:=by
 have nf:e∉frs (env::outer):=fun hm=>by
  obtain ⟨_,o,ho,hn⟩:=hl.mem hm
  rw [he] at ho; cases ho; exact hn vs hd
 unfold noteFrame
 simp only [hf]
 refine wpAny_bind (wpAny_field he hd h1 ?_)
 refine wpAny_bind (wpAny_frameOf_fun hfr hl hf fun h₁ hs=>wpAny_bind (wpAny_entryPlaceOf fun pl hpl=>?_))
 exact zD7 hpl hs ((hs.2.1 e nf).trans he) hd (Array.getElem?_eq_some_iff.mp h1).1 (by simp) hQ
theorem zDZ {T:Addr}{cls:Value} (hfr:A.frames=some (env::outer)) (hl:s.heap.FunFrames base (env::outer)) (hf:env.frame=some L) (ht:Trc s.heap e T cls)
  (hQ:∀ h',Lft (env::outer) [e,T] e cls s.heap h'→Q () { s with heap:=h' }):wpAny M A (noteFrame (.ref e) env) (fun _ s'=>wpAny M A (setFlight (.ref e) none) Q E s') E s:=by
 obtain ⟨oe,vs,oT,ts,he,rfl,hd,h1,nT,hT,hdT,h3⟩:=ht
 have t3:=(Array.getElem?_eq_some_iff.mp h3).1
 unfold noteFrame
 simp only [hf]
 refine wpAny_bind (wpAny_field he hd h1 ?_)
 refine wpAny_bind (wpAny_field hT hdT h3 ?_)
 refine wpAny_bind (wpAny_setField hT hdT t3 ?_)
 obtain ⟨h0,hh0⟩:∃ h0,s.heap.update T (Obj.mapFields (·.setIfInBounds 3 Value.none))=h0:=⟨_,rfl⟩
 have oth:∀ b,b≠T→h0.get? b=s.heap.get? b:=fun b hb=>by rw [← hh0]; exact Heap.get?_update_other _ _ (Ne.symm hb)
 have sz:h0.objs.size=s.heap.objs.size:=by rw [← hh0]; exact Heap.size_update _ _ _
 have atT:∃ o',h0.get? T=some o':=⟨_,by rw [← hh0]; exact Heap.get?_update_self _ hT (Obj.isFreed_of_fields (Obj.data_mapFields hdT _))⟩
 rw [hh0]
 have he0:=(oth e (Ne.symm nT)).trans he
 have hl0:=hl.of_keeps fun b o hb hnf=>⟨o,(oth b fun z=>by rw [z,hT] at hb; cases hb; exact hnf ts hdT).trans hb,rfl⟩
 have nf:e∉frs (env::outer):=fun hm=>by
  obtain ⟨_,o,ho,hn⟩:=hl0.mem hm
  rw [he0] at ho; cases ho; exact hn vs hd
 refine wpAny_bind (wpAny_frameOf_fun hfr hl0 hf fun h₁ hs=>wpAny_bind (wpAny_entryPlaceOf fun pl hpl=>?_))
 refine zD7 hpl hs ((hs.2.1 e nf).trans he0) hd (Array.getElem?_eq_some_iff.mp h1).1 (wr:=[e,T]) (by simp) fun h' lf=>hQ h' ?_
 have nT':∀ b:Addr,b∉[e,T]→b≠T:=fun b hb z=>hb (by rw [z]; simp)
 refine ⟨fun b o hb n1 n2=>lf.keep b o ((oth b (nT' b n1)).trans hb) n1 n2,fun b o hb n1=>lf.slot b o ((oth b (nT' b n1)).trans hb) n1,fun b o hb=>?_,by rw [← sz]; exact lf.tr⟩
 by_cases z:b=T
 ·obtain ⟨o',q⟩:=atT
  exact lf.there b o' (by rw [z]; exact q)
 ·exact lf.there b o ((oth b z).trans hb)
end
open PySem PySem.Spec PyProof.Rows
inductive CX1 (P:Program) (w:World) (outer:List Env) (H:Hp) (s:Shared) (E:XK) (ev:Value) (s':Shared):Prop
 | mk (e T:Addr) (C:Value) (H':Hp) (eq:ev=.ref e) (tr:Trc s'.heap e T C) (ne:s.heap.get? e=none) (nT:s.heap.get? T=none) (os:s'.os=s.os) (bare:AllBare s'.gens) (un:Un (frs outer) [] H H' s.heap s'.heap) (hok:HOk P w H' s'.heap) (he:H' e=none) (hT:H' T=none) (w:E C none H')
theorem zAV.here {P:Program}{w:World}{H:Hp}{h:Heap}{a:Addr}{o:HO} (x:zAV P w H h a o):∃ ob,h.get? a=some ob:=by
 cases o with
 | lst xs=>obtain ⟨_,_,_,_,e⟩:=x; exact ⟨_,e⟩
 | tup xs=>obtain ⟨_,_,_,ob,e,_⟩:=x; exact ⟨ob,e⟩
 | dK kvs=>obtain ⟨_,_,_,_,ob,_,_,e,_⟩:=x; exact ⟨ob,e⟩
 | dT kvs=>obtain ⟨_,_,_,_,ob,_,_,e,_⟩:=x; exact ⟨ob,e⟩
 | set S n=>obtain ⟨ob,_,_,_,e,_⟩:=x; exact ⟨ob,e⟩
 | ins C dx fs=>obtain ⟨_,_,_,e,_⟩:=x; exact ⟨_,e⟩
 | own y=>exact x
 | xd fs=>obtain ⟨_,⟨ob,_,_,e,_⟩,_⟩:=x; exact ⟨ob,e⟩
 | rng lo hi=>obtain ⟨_,_,_,e⟩:=x; exact ⟨_,e⟩
 | frz ob u=>exact ⟨ob,x.1⟩
 | tbl ps=>exact ⟨_,x⟩
 | met f y=>exact ⟨_,x⟩
 | ext φ=>exact x.2.1
section
variable {X:Cx}{pins:List (Addr × Obj)}{σ:St}{H:Hp}{s:Shared}{E:XK}{e T:Addr}{C:Value}{wr:List Addr}{h':Heap}
structure Own1 (X:Cx) (E:XK):Prop where
 xe:X.xe=fun e s'=>wpAny (model X.prog X.w) X.A (leaving X.env e) (fun _ s''=>CX1 X.prog X.w X.outer X.H₀ X.s₀ E e s'') (fun e' s''=>CX1 X.prog X.w X.outer X.H₀ X.s₀ E e' s'') s'
 stk:X.stack=X.env::X.outer
 fr:X.env.frame=some X.env.locals
 ex:X.ex=[]
theorem zLS (o:Own1 X E):frs X.stack=X.env.locals::X.fs:=by
 rw [o.stk]
 show List.filterMap (·.frame) (X.env::X.outer)=_
 rw [List.filterMap_cons,o.fr]
 rfl
theorem zOx (I:Inv X pins σ H s) (lf:Lft X.stack wr e C s.heap h') (hw:∀ b∈wr,H b=none):HOk X.prog X.w H h':=fun a o q=>(I.hok a o q).stay (fun b u hb r=>by
 have hs:∃ z,H b=some z:=by
  rcases hb with rfl | hb
  ·exact ⟨o,q⟩
  ·exact ⟨_,hb⟩
 obtain ⟨z,hz⟩:=hs
 refine lf.keep b u r (fun m=>?_) fun m=>?_
 ·rw [hw b m] at hz; cases hz
 ·rw [I.stkFree b m] at hz; cases hz) (fun _ r=>r) fun _ _ r=>r
theorem zMe (o:Own1 X E) (I:Inv X pins σ H s) (lf:Lft X.stack wr e C s.heap h') (hw:∀ b∈wr,X.s₀.heap.get? b=none∧H b=none) (he:e∈wr) (hE:E C none H):CX1 X.prog X.w X.outer X.H₀ X.s₀ E (.ref e) { s with heap:=h' }:=by
 obtain ⟨T,hT,tr⟩:=lf.tr
 have fr:=zLS o
 have ex:∀ b,b∉X.ex:=fun b hb=>by rw [o.ex] at hb; cases hb
 have n0:∀ b ob,X.s₀.heap.get? b=some ob→b∉wr:=fun b ob q m=>by rw [(hw b m).1] at q; cases q
 have nL:∀ b ob,X.s₀.heap.get? b=some ob→b≠X.env.locals:=fun b ob q=>Nat.ne_of_lt (Nat.lt_of_lt_of_le (Heap.lt_size q) I.ok.above)
 have T0:X.s₀.heap.get? T=none:=by
  cases q:X.s₀.heap.get? T with
  | none=>rfl
  | some ob =>
   obtain ⟨o',q'⟩:=I.base.there T ob q (ex T)
   exact absurd (Heap.lt_size q') (Nat.not_lt.mpr hT)
 refine ⟨e,T,C,H,rfl,tr,(hw e he).1,T0,I.os,I.bare,⟨fun b ob q n hb _=>?_,fun b ob q n hb _=>?_,fun b ob q n _=>I.base.free b ob q n (ex b),fun b ob q _=>?_,I.base.tups,I.base.frzs,I.base.tbls⟩,zOx I lf fun b m=>(hw b m).2,(hw e he).2,I.hok.fresh hT,hE⟩
 ·refine lf.keep b ob (I.base.keep b ob q n hb (ex b)) (n0 b ob q) ?_
  rw [fr]
  exact fun m=>(List.mem_cons.mp m).elim (nL b ob q) hb
 ·obtain ⟨sl,q1⟩:=I.base.slot b ob q n hb (ex b)
  obtain ⟨sl',q2⟩:=lf.slot b _ q1 (n0 b ob q)
  exact ⟨sl',q2⟩
 ·obtain ⟨o',q1⟩:=I.base.there b ob q (ex b)
  exact lf.there b o' q1
theorem zJE (o:Own1 X E):zB1 (CX1 X.prog X.w) X E:=by
 intro pins σ H s ev s' I h
 obtain ⟨e,T,C,H',rfl,tr,ne,nT,os,bare,un,hok,he,hT,hE⟩:=h
 have I':=I.call' os un hok bare fun b z=>absurd z (by simp)
 rw [o.xe]
 have z0:∀ b,s.heap.get? b=none→X.s₀.heap.get? b=none:=fun b hb=>by
  cases q:X.s₀.heap.get? b with
  | none=>rfl
  | some ob =>
   obtain ⟨o',q'⟩:=I.base.there b ob q (by rw [o.ex]; simp)
   rw [hb] at q'; cases q'
 have fl:=I'.stack
 have fr:=I'.ok.frames
 rw [o.stk] at fl fr
 refine wpAny_bind (zDZ fr fl o.fr tr fun h' lf=>zMe o I' (by rw [o.stk]; exact lf) (fun b hb=>?_) (by simp) hE)
 simp only [List.mem_cons,List.not_mem_nil,or_false] at hb
 rcases hb with rfl | rfl
 ·exact ⟨z0 _ ne,he⟩
 ·exact ⟨z0 _ nT,hT⟩
def zIF (X:Cx) (E:XK):Prop:=∀ (pins:List (Addr × Obj)) (σ:St) (H:Hp) (s:Shared) (h':Heap) (e C:Addr) (vs:List Value),Inv X pins σ H s→Heap.MadeExcOf s.heap h' e (.ref C) vs→E (.ref C) none H→X.xe (.ref e) { s with heap:=h' }
theorem zQF (o:Own1 X E):zIF X E:=by
 intro pins σ H s h' e C vs I mk hE
 have I':=I.kept (t':=s.toks) mk.keeps
 obtain ⟨t,he,_,_⟩:=mk.there
 have e0:X.s₀.heap.get? e=none:=by
  cases q:X.s₀.heap.get? e with
  | none=>rfl
  | some ob =>
   obtain ⟨o',q'⟩:=I.base.there e ob q (by rw [o.ex]; simp)
   rw [mk.new] at q'; cases q'
 have hH:H e=none:=by
  cases q:H e with
  | none=>rfl
  | some u =>
   obtain ⟨o',q'⟩:=(I.hok e u q).here
   rw [mk.new] at q'; cases q'
 have fl:=I'.stack
 have fr:=I'.ok.frames
 rw [o.stk] at fl fr
 rw [o.xe]
 refine wpAny_bind (zJG fr fl o.fr he rfl rfl fun h'' lf=>zMe o I' (by rw [o.stk]; exact lf) (fun b hb=>?_) (by simp) hE)
 simp only [List.mem_cons,List.not_mem_nil,or_false] at hb
 subst hb
 exact ⟨e0,hH⟩
end
open PySem PySem.Spec PyProof.Rows
noncomputable abbrev VEs:List Value:=[.type "ValueError",.type "Exception",.type "BaseException",.type "object"]
def ExcK (K:W.Frag) (C:Addr):Prop:=W.excIn K C VEs "ValueError.__new__"=true
theorem exc_at {K:W.Frag}{C:Addr} (h:ExcK K C):∃ bm N nm q bs hdct sn sub ab col dd k0 k1 k2 k3 k5,K.lookup C=some (excClassObj nm q C N bs bm hdct sn sub ab col dd k0 k1 k2 k3 k5 "ValueError.__new__")∧W.tailIn K VEs bm=true∧W.nsOkIn K N=true∧W.nsIn K N "__init__"=some none:=by
 unfold ExcK W.excIn at h
 split at h
 ·rename_i dd cd sl ho
  split at h
  ·rename_i C' bm k0 k1 k2 k3 n k5 hm hs
   simp only [Bool.and_eq_true,beq_iff_eq,Bool.not_eq_true'] at h
   obtain ⟨⟨⟨⟨⟨rfl,rfl⟩,hdel⟩,ht⟩,hok⟩,hni⟩:=h
   obtain ⟨nm,bs,mro,ns,qn,hd,sn,sub,ab,col,del⟩:=cd
   dsimp only at hm hdel hok hni
   subst hm hdel
   obtain ⟨l⟩:=sl
   subst hs
   exact ⟨bm,ns,nm,qn,bs,hd,sn,sub,ab,col,dd,k0,k1,k2,k3,k5,ho,ht,hok,hni⟩
  ·cases h
 ·cases h
section
variable {X:Cx}{E:XK}{x:Str}{C:Addr}{txt:Str}{j:Nat}{np p2 cpos pos:Pos}
noncomputable def tRaise (C:Addr) (E:XK):TS:=fun _ _ H=>E (.ref C) none H
theorem zNB (hc:X.calm=true) (hg:Gl X x) (hm:X.mg x=some (.ref C)) (hk:ExcK X.K C) (pn:zIF X E) (hd:(x == ("__debug__":Str))=false):PS X (.Raise (some (.Call (.Name x np) [.Constant (.str txt) j p2] [] cpos)) none pos) (tRaise C E):=by
 intro pins s σ H D I h
 obtain ⟨bm,N,nm,q,bs,hdct,sn,sub,ab,col,dd,k0,k1,k2,k3,k5,lk,ht,hok,hni⟩:=exc_at hk
 have T:=W.tail_of_in I.kIn ht
 refine wpAny_Raise_call_subT (nm:=nm) (q:=q) (N:=N) (bs:=bs) (hdct:=hdct) (sn:=sn) (sub:=sub) (ab:=ab) (col:=col) (dd:=dd) (k0:=k0) (k1:=k1) (k2:=k2) (k3:=k3) (k5:=k5)
  PySem.F.excBase_ValueError (T.hasType (by decide)) (I.ok.hd hc) rfl (W.nsMap_none_of_in I.kIn hok hni) (zBQ I hg hm ⟨rfl,?_⟩ hd)
 refine Calls.evalArgs_plain (Calls.spliced_cons (Calls.Constant_str (pos:=p2) (k:=j) (Calls.spliced_nil ?_)))
 have I2:Inv X pins σ H { s with toks:=s.toks+1 }:=I.tok _
 exact ⟨rfl,by show 1≤sizeLine; decide,I2.kIn _ _ lk,.of_isNs (W.isNs_of_in I2.kIn hok),W.tail_of_in I2.kIn ht,fun h' e mk=>pn pins σ H _ h' e C _ I2 mk h⟩
end
open PySem PySem.Spec PyProof.Rows
section
variable {X:Cx}{pins:List (Addr × Obj)}{σ:St}{H:Hp}{s:Shared}{E:XK}{e T:Addr}{C:Value}{h':Heap}
theorem zOO (o:Own1 X E) (I:Inv X pins σ H s) (keep:∀ b ob,s.heap.get? b=some ob→b≠T→h'.get? b=some ob) (there:∃ o',h'.get? T=some o') (tr:Trc h' e T C) (e0:X.s₀.heap.get? e=none) (eH:H e=none) (T0:X.s₀.heap.get? T=none) (TH:H T=none) (hE:E C none H):CX1 X.prog X.w X.outer X.H₀ X.s₀ E (.ref e) { s with heap:=h' }:=by
 have ex:∀ b,b∉X.ex:=fun b hb=>by rw [o.ex] at hb; cases hb
 have n0:∀ b ob,X.s₀.heap.get? b=some ob→b≠T:=fun b ob q z=>by rw [z,T0] at q; cases q
 refine ⟨e,T,C,H,rfl,tr,e0,T0,I.os,I.bare,⟨fun b ob q n hb _=>keep b ob (I.base.keep b ob q n hb (ex b)) (n0 b ob q),fun b ob q n hb _=>?_,fun b ob q n _=>I.base.free b ob q n (ex b),fun b ob q _=>?_,I.base.tups,I.base.frzs,I.base.tbls⟩,fun a o q=>(I.hok a o q).stay (fun b u hb r=>keep b u r fun z=>?_) (fun _ r=>r) fun _ _ r=>r,eH,TH,hE⟩
 ·obtain ⟨sl,q1⟩:=I.base.slot b ob q n hb (ex b)
  exact ⟨sl,keep b _ q1 (n0 b ob q)⟩
 ·obtain ⟨o',q1⟩:=I.base.there b ob q (ex b)
  exact ⟨o',keep b o' q1 (n0 b ob q)⟩
 ·subst z
  rcases hb with rfl | hb
  ·rw [TH] at q; cases q
  ·rw [TH] at hb; cases hb
end
open PySem PySem.Spec PyProof.Rows
def TrcA (h:Heap) (e T:Addr) (cls:Value):Prop:=∃ oe vs oT ts v,h.get? e=some oe∧oe.cls=cls∧oe.data=.fields vs∧vs[1]?=some (.ref T)∧T≠e∧h.get? T=some oT∧oT.data=.fields ts∧ts[3]?=some v
theorem zEO {e:Value}{env env':Env} (h:env'.frame=env.frame):noteFrame e env'=noteFrame e env:=by
 unfold noteFrame PySem.frameOf
 rw [h]
section
variable {M:Model}{A:Around}{E:Value→Shared→Prop}{s:Shared}{base:Heap}{env:Env}{outer:List Env}{L e T:Addr}{cls:Value}{Q:Unit→Shared→Prop}
theorem zHT {h₁:Heap}{oe:Obj}{vs:Array Value}{pl:List Value}{head:Value}{wr:List Addr}{h₀:Heap} (hpl:IsPlace pl) (hs:Heap.SlotsOnly (frs (env::outer)) h₀ h₁) (he:h₁.get? e=some oe) (hd:oe.data=.fields vs) (hsz:1<vs.size) (hew:e∈wr)
  (hQ:∀ h' T',(∀ b o,h₀.get? b=some o→b∉wr→b∉frs (env::outer)→h'.get? b=some o)→(∀ b o,h₀.get? b=some o→b∉wr→∃ sl,h'.get? b=some { o with slots:=sl })→(∀ b o,h₀.get? b=some o→∃ o',h'.get? b=some o')→h₀.objs.size≤T'→TrcA h' e T' oe.cls→Q () { s with heap:=h' }) :
  wpAny M A (EntryCells.newEntry head (.ref L) .none (rawInt L) .none pl >>= fun b=>setField (.ref e) 1 b) Q E { s with heap:=h₁ }:=by
 obtain ⟨ts,hts⟩:∃ ts,([head,.ref L,.none,rawInt L,.none]++(if pl.isEmpty then List.replicate 6 Value.none else pl)).toArray=ts:=⟨_,rfl⟩
 have t3:3<ts.size:=by rw [← hts,List.size_toArray,List.length_append]; simp only [List.length_cons]; lia
 refine wpAny_bind (wpAny_newObj_type ?_ (hpl.sizeOk5 _ _ _ _ _))
 rw [hts]
 have e2:=Heap.get?_push_of_some { cls:=.type "traceback",dict:=none,data:=.fields ts } he
 refine wpAny_setField e2 hd hsz ?_
 have ne:=Nat.ne_of_gt (Heap.lt_size he)
 have d3:=Obj.data_mapFields hd (·.setIfInBounds 1 (Value.ref h₁.objs.size))
 have e3:=Heap.get?_update_self (Obj.mapFields (·.setIfInBounds 1 (Value.ref h₁.objs.size))) e2 (Obj.isFreed_of_fields d3)
 have T3:=(Heap.get?_update_other (h₁.push { cls:=.type "traceback",dict:=none,data:=.fields ts }) (Obj.mapFields (·.setIfInBounds 1 (Value.ref h₁.objs.size))) (Ne.symm ne)).trans (Heap.get?_push_size h₁ rfl)
 have keep:∀ b o,b≠e→h₁.get? b=some o→((h₁.push { cls:=.type "traceback",dict:=none,data:=.fields ts }).update e (Obj.mapFields (·.setIfInBounds 1 (Value.ref h₁.objs.size)))).get? b=some o:=fun b o hbe hb=>by
  rw [Heap.get?_update_other _ _ (Ne.symm hbe)]
  exact Heap.get?_push_of_some _ hb
 have ew:∀ b:Addr,b∉wr→b≠e:=fun b hb z=>hb (z▸hew)
 refine hQ _ h₁.objs.size (fun b o hb n1 n2=>keep b o (ew b n1) ((hs.2.1 b n2).trans hb)) (fun b o hb n1=>?_) (fun b o hb=>?_) (Nat.le_of_eq hs.1.symm) ⟨_,_,_,_,_,e3,Obj.cls_mapFields _ _,d3,by simp [hsz],ne,T3,rfl,Array.getElem?_eq_getElem t3⟩
 ·obtain ⟨sl,q⟩:=hs.2.2 b o hb
  exact ⟨sl,keep b _ (ew b n1) q⟩
 ·obtain ⟨sl,q⟩:=hs.2.2 b o hb
  by_cases z:b=e
  ·exact ⟨_,by rw [z]; exact e3⟩
  ·exact ⟨_,keep b _ z q⟩
theorem zNV (hfr:A.frames=some (env::outer)) (hl:s.heap.FunFrames base (env::outer)) (hf:env.frame=some L) (ht:Trc s.heap e T cls)
  (hQ:∀ h' T',(∀ b o,s.heap.get? b=some o→b∉[e,T]→b∉frs (env::outer)→h'.get? b=some o)→(∀ b o,s.heap.get? b=some o→b∉[e,T]→∃ sl,h'.get? b=some { o with slots:=sl })→(∀ b o,s.heap.get? b=some o→∃ o',h'.get? b=some o')→s.heap.objs.size≤T'→TrcA h' e T' cls→Q () { s with heap:=h' }):wpAny M A (noteFrame (.ref e) env) Q E s:=by
 obtain ⟨oe,vs,oT,ts,he,rfl,hd,h1,nT,hT,hdT,h3⟩:=ht
 have t3:=(Array.getElem?_eq_some_iff.mp h3).1
 unfold noteFrame
 simp only [hf]
 refine wpAny_bind (wpAny_field he hd h1 ?_)
 refine wpAny_bind (wpAny_field hT hdT h3 ?_)
 refine wpAny_bind (wpAny_setField hT hdT t3 ?_)
 obtain ⟨h0,hh0⟩:∃ h0,s.heap.update T (Obj.mapFields (·.setIfInBounds 3 Value.none))=h0:=⟨_,rfl⟩
 have oth:∀ b,b≠T→h0.get? b=s.heap.get? b:=fun b hb=>by rw [← hh0]; exact Heap.get?_update_other _ _ (Ne.symm hb)
 have sz:h0.objs.size=s.heap.objs.size:=by rw [← hh0]; exact Heap.size_update _ _ _
 have atT:∃ o',h0.get? T=some o':=⟨_,by rw [← hh0]; exact Heap.get?_update_self _ hT (Obj.isFreed_of_fields (Obj.data_mapFields hdT _))⟩
 rw [hh0]
 have he0:=(oth e (Ne.symm nT)).trans he
 have hl0:=hl.of_keeps fun b o hb hnf=>⟨o,(oth b fun z=>by rw [z,hT] at hb; cases hb; exact hnf ts hdT).trans hb,rfl⟩
 have nf:e∉frs (env::outer):=fun hm=>by
  obtain ⟨_,o,ho,hn⟩:=hl0.mem hm
  rw [he0] at ho; cases ho; exact hn vs hd
 refine wpAny_bind (wpAny_frameOf_fun hfr hl0 hf fun h₁ hs=>wpAny_bind (wpAny_entryPlaceOf fun pl hpl=>?_))
 refine zHT hpl hs ((hs.2.1 e nf).trans he0) hd (Array.getElem?_eq_some_iff.mp h1).1 (wr:=[e,T]) (by simp) fun h' T' k1 k2 k3 k4 k5=>hQ h' T' ?_ ?_ ?_ (by rw [← sz]; exact k4) k5
 ·exact fun b o hb n1 n2=>k1 b o ((oth b fun z=>n1 (by rw [z]; simp)).trans hb) n1 n2
 ·exact fun b o hb n1=>k2 b o ((oth b fun z=>n1 (by rw [z]; simp)).trans hb) n1
 ·intro b o hb
  by_cases z:b=T
  ·obtain ⟨o',q⟩:=atT
   exact k3 b o' (by rw [z]; exact q)
  ·exact k3 b o ((oth b z).trans hb)
theorem zNW (hfr:A.frames=some (env::outer)) (hl:s.heap.FunFrames base (env::outer)) (hf:env.frame=some L) (ht:TrcA s.heap e T cls)
  (hQ1:∀ h',Lft (env::outer) [e,T] e cls s.heap h'→Q () { s with heap:=h' })
  (hQ2:∀ h',(∀ b o,s.heap.get? b=some o→b≠T→h'.get? b=some o)→(∃ o',h'.get? T=some o')→Trc h' e T cls→Q () { s with heap:=h' }):wpAny M A (noteFrame (.ref e) env) (fun _ s'=>wpAny M A (setFlight (.ref e) none) Q E s') E s:=by
 obtain ⟨oe,vs,oT,ts,v,he,rfl,hd,h1,nT,hT,hdT,h3⟩:=ht
 have t3:=(Array.getElem?_eq_some_iff.mp h3).1
 unfold noteFrame
 simp only [hf]
 refine wpAny_bind (wpAny_field he hd h1 ?_)
 rw [if_pos (show (Value.ref T != Value.none)=true from by simp)]
 refine wpAny_bind (wpAny_field hT hdT h3 ?_)
 by_cases hv:(v == rawInt L)=true
 ·rw [if_pos hv]
  refine wpAny_pure ?_
  refine wpAny_setFlight_none he hd h1 hT hdT t3 (hQ2 _ (fun b o hb n=>(Heap.get?_update_other _ _ (Ne.symm n)).trans hb) ?_ ?_)
  ·exact ⟨_,Heap.get?_update_self _ hT (Obj.isFreed_of_fields (Obj.data_mapFields hdT _))⟩
  ·exact ⟨oe,vs,_,_,(Heap.get?_update_other _ _ nT).trans he,rfl,hd,h1,nT,Heap.get?_update_self _ hT (Obj.isFreed_of_fields (Obj.data_mapFields hdT _)),Obj.data_mapFields hdT _,by simp [t3]⟩
 ·rw [if_neg hv]
  refine wpAny_bind (wpAny_setField hT hdT t3 ?_)
  obtain ⟨h0,hh0⟩:∃ h0,s.heap.update T (Obj.mapFields (·.setIfInBounds 3 Value.none))=h0:=⟨_,rfl⟩
  have oth:∀ b,b≠T→h0.get? b=s.heap.get? b:=fun b hb=>by rw [← hh0]; exact Heap.get?_update_other _ _ (Ne.symm hb)
  have sz:h0.objs.size=s.heap.objs.size:=by rw [← hh0]; exact Heap.size_update _ _ _
  have atT:∃ o',h0.get? T=some o':=⟨_,by rw [← hh0]; exact Heap.get?_update_self _ hT (Obj.isFreed_of_fields (Obj.data_mapFields hdT _))⟩
  rw [hh0]
  have he0:=(oth e (Ne.symm nT)).trans he
  have hl0:=hl.of_keeps fun b o hb hnf=>⟨o,(oth b fun z=>by rw [z,hT] at hb; cases hb; exact hnf ts hdT).trans hb,rfl⟩
  have nf:e∉frs (env::outer):=fun hm=>by
   obtain ⟨_,o,ho,hn⟩:=hl0.mem hm
   rw [he0] at ho; cases ho; exact hn vs hd
  refine wpAny_bind (wpAny_frameOf_fun hfr hl0 hf fun h₁ hs=>wpAny_bind (wpAny_entryPlaceOf fun pl hpl=>?_))
  refine zD7 hpl hs ((hs.2.1 e nf).trans he0) hd (Array.getElem?_eq_some_iff.mp h1).1 (wr:=[e,T]) (by simp) fun h' lf=>hQ1 h' ?_
  have nT':∀ b:Addr,b∉[e,T]→b≠T:=fun b hb z=>hb (by rw [z]; simp)
  refine ⟨fun b o hb n1 n2=>lf.keep b o ((oth b (nT' b n1)).trans hb) n1 n2,fun b o hb n1=>lf.slot b o ((oth b (nT' b n1)).trans hb) n1,fun b o hb=>?_,by rw [← sz]; exact lf.tr⟩
  by_cases z:b=T
  ·obtain ⟨o',q⟩:=atT
   exact lf.there b o' (by rw [z]; exact q)
  ·exact lf.there b o ((oth b z).trans hb)
end
section
variable {X:Cx}{pins:List (Addr × Obj)}{σ:St}{H:Hp}{s:Shared}{E:XK}{e T:Addr}{C:Value}
def ChOk (X:Cx) (pins:List (Addr × Obj)) (ch:List Addr):Prop:=∀ b∈ch,(b∈X.ex∨X.s₀.heap.objs.size≤b)∧b≠X.env.locals∧(∀ x c,X.env.cells.lookup x=some c→c≠b)∧∀ p∈X.pn++pins,p.1≠b
theorem zQG (o:Own1 X E) (I:Inv X pins σ H s) {s':Shared}{H':Hp}{ch:List Addr} (tr:TrcA s'.heap e T C) (ne:e∈ch∨s.heap.get? e=none) (nT:T∈ch∨s.heap.get? T=none) (os:s'.os=s.os) (bare:AllBare s'.gens) (un:Un (frs X.stack) ch H H' s.heap s'.heap) (hch:ChOk X pins ch) (hok:HOk X.prog X.w H' s'.heap) (he:H' e=none) (hT:H' T=none) (hE:E C none H'):X.xe (.ref e) s':=by
 have I':=I.call' os un hok bare hch
 rw [o.xe]
 have z0:∀ b,b∈ch∨s.heap.get? b=none→X.s₀.heap.get? b=none:=fun b hb=>by
  cases q:X.s₀.heap.get? b with
  | none=>rfl
  | some ob =>
   rcases hb with hb | hb
   ·rcases (hch b hb).1 with z | z
    ·rw [o.ex] at z; cases z
    ·exact absurd (Heap.lt_size q) (Nat.not_lt.mpr z)
   ·obtain ⟨o',q'⟩:=I.base.there b ob q (by rw [o.ex]; simp)
    rw [hb] at q'; cases q'
 have fl:=I'.stack
 have fr:=I'.ok.frames
 rw [o.stk] at fl fr
 refine wpAny_bind (zNW fr fl o.fr tr (fun h' lf=>zMe o I' (by rw [o.stk]; exact lf) (fun b hb=>?_) (by simp) hE) fun h' keep there t=>zOO o I' keep there t (z0 _ ne) he (z0 _ nT) hT hE)
 simp only [List.mem_cons,List.not_mem_nil,or_false] at hb
 rcases hb with rfl | rfl
 ·exact ⟨z0 _ ne,he⟩
 ·exact ⟨z0 _ nT,hT⟩
end
open PySem PySem.Spec PyProof.Rows
noncomputable def zG3 (P:Program) (w:World) (K:W.Frag) (mg:Str→Option Value) (base:Heap) (N:List Str) (qual:Str) (scope:Scope) (f:Addr) (cd:Value) (cl:List (Str × Addr)) (A:Around) (outer:List Env) (s:Shared) (H:Hp) (E:XK):Cx where
 prog:=P
 w:=w
 K:=K
 mg:=mg
 base:=base
 A:=A.deeper (W.envX qual scope s.heap.objs.size f cd cl)
 N:=N
 s₀:=s
 H₀:=H
 env:=W.envX qual scope s.heap.objs.size f cd cl
 outer:=outer
 stack:=W.envX qual scope s.heap.objs.size f cd cl::outer
 ex:=[]
 calm:=true
 fn:=fun _=>false
 pn:=[]
 xe:=fun e s'=>wpAny (model P w) (A.deeper (W.envX qual scope s.heap.objs.size f cd cl)) (leaving (W.envX qual scope s.heap.objs.size f cd cl) e) (fun _ s''=>CX1 P w outer H s E e s'') (fun e' s''=>CX1 P w outer H s E e' s'') s'
structure LamSt (N:List Str) (σ:St) (scope:Scope) (cl:List (Str × Addr)) (H:Hp) (h:Heap):Prop where
 inj:∀ x y c,cl.lookup x=some c→cl.lookup y=some c→x=y
 has:∀ x,(scope.names.lookup x=some .cell∨scope.names.lookup x=some .free)→∃ c,cl.lookup x=some c
 val:∀ (i:Nat) (x:Str) (v:V),N[i]?=some x→σ[i]?=some (some v)→∃ u c,RelV v u∧scope.names.lookup x=some .free∧cl.lookup x=some c∧h.IsCell c (some u)
 cell:∀ x c,cl.lookup x=some c→(∃ v,h.IsCell c v)∧H c=none
 len:σ.length=N.length
section
variable {P:Program}{w:World}{K:W.Frag}{mg:Str→Option Value}{base:Heap}{N:List Str}{σ:St}{qual:Str}{scope:Scope}{f:Addr}{cd:Value}{cl:List (Str × Addr)}{A:Around}{outer:List Env}{s:Shared}{H:Hp}{E:XK}
theorem zHg {h h':Heap}{c:Addr}{v:Option Value} (x:h.IsCell c v) (k:∀ o,h.get? c=some o→h'.get? c=some o):h'.IsCell c v:=let ⟨o,e,d⟩:=x; ⟨o,k o e,d⟩
theorem lam_inv (e0:Env0 P w K mg base A outer s H) (hd:A.handled=none) (hk:scope.kind=.function) (L:LamSt N σ scope cl H s.heap) {h₁:Heap}{tk:Tok}{m:Str→Option Value} (hns:h₁.Ns s.heap.objs.size m) (hk₁:∀ b o,s.heap.get? b=some o→h₁.get? b=some o) :
  Inv (zG3 P w K mg base N qual scope f cd cl A outer s H E) [] σ H { s with heap:=h₁,toks:=tk }:=by
 have noA:∀ b:Addr,b∉(zG3 P w K mg base N qual scope f cd cl A outer s H E).ex:=fun b z=>absurd (show b∈([]) from z) (by simp)
 refine ⟨⟨e0.mod,hk,rfl,rfl,Nat.le_refl _,L.inj,L.has,fun _ _ z=>(by cases z),fun _=>hd,Around.frames_deeper e0.frames,.inr ⟨rfl,rfl⟩,fun b z=>absurd z (noA b),e0.bs,e0.bsz,fun b _ _=>noA b,fun b z=>absurd z (noA b),e0.funs,e0.frf⟩,
  rfl,e0.bare,Un.kept hk₁,⟨m,hns,fun i y v h1 h2 h3=>?_⟩,fun y c h=>?_,e0.hok.fresh (Nat.le_refl _),fun y c h=>(L.cell y c h).2,fun p hp=>absurd (show p∈([]) from hp) (by simp),e0.hok.kept hk₁,L.len⟩
 ·obtain ⟨u,c,r,e1,e2,e3⟩:=L.val i y v h1 h2
  exact ⟨u,r,.inr ⟨.inr e1,c,e2,zHg e3 fun o=>hk₁ c o⟩⟩
 ·obtain ⟨v,x⟩:=(L.cell y c h).1
  exact ⟨v,zHg x fun o=>hk₁ c o⟩
theorem zLw:Own1 (zG3 P w K mg base N qual scope f cd cl A outer s H E) E:=⟨rfl,rfl,rfl,rfl⟩
theorem zLv {k:Nat}{name:Str}{params:Arguments}{body:Expr}{pm ctv:Value}{t:TE}{Q:VK} (hr:Room k A) (hk1:1≤k) (e0:Env0 P w K mg base A outer s H)
  (ho:s.heap.get? f=some { cls:=.type "function",data:=.func (W.kla_fn name qual params body scope cl pm cd ctv) }) (hcd:s.heap.CodeRec cd qual)
  (hk:scope.kind=.function) (hco:scope.isCoroutine=false) (hgen:scope.isGenerator=false) (hcell:∀ x∈scope.names,x.2≠.cell)
  (hb:bindArgs (W.kla_fn name qual params body scope cl pm cd ctv) ⟨[],[]⟩=pure []) (L:LamSt N σ scope cl H s.heap)
  (hbody:PE (zG3 P w K mg base N qual scope f cd cl A outer s H E) body t) (ht:t σ H Q) :
  codeAny (model P w) A (.call (.ref f) ⟨[],[]⟩) (CR (CX1 P w) outer P w H s Q E) s:=by
 have lim:=e0.mod.nolimit.keeps fun b o e=>(e0.bs b o e).1
 have hr1:=hr.mono hk1
 refine W.kla_callFunE hr1.depth ho rfl hco hgen rfl hcd ?_
 rw [hb]
 refine wpAny_pure (wpAny_newFunctionEnv hcell (fun _ z=>nomatch z) (fun h₁ hns hsb=>⟨lim.fresh _ hsb,?_⟩) hk)
 show codeAny _ _ (.expr body (W.envX qual scope s.heap.objs.size f cd cl)) _ _
 have hk₁:=fun b o e=>hsb.extBut b o (Nat.ne_of_lt (Heap.lt_size e)) (Heap.get?_push_of_some _ e)
 refine W.kla_codeExpr (wpAny_mono (hbody [] _ σ H Q (lam_inv e0 hr1.hd hk L hns hk₁) ht) (fun v s' h=>?_) fun _ _ y=>y)
 obtain ⟨v',H',I',r,q⟩:=h
 exact ⟨v',H',I'.os,I'.bare,I'.base,I'.hok,r,q⟩
end
open PySem PySem.Spec PyProof.Rows
structure New1 (X:Cx) (pins:List (Addr × Obj)) (H:Hp) (b:Addr):Prop where
 s0:X.s₀.heap.get? b=none
 h:H b=none
 l:b≠X.env.locals
 c:∀ x c,X.env.cells.lookup x=some c→c≠b
 p:∀ p∈X.pn++pins,p.1≠b
section
variable {X:Cx}{pins:List (Addr × Obj)}{σ:St}{H H':Hp}{s:Shared}
theorem Inv.new1 (I:Inv X pins σ H s) (hex:X.ex=[]) {b:Addr} (hb:s.heap.get? b=none) (hH:H' b=none):New1 X pins H' b:=by
 refine ⟨?_,hH,fun z=>?_,fun x c e z=>?_,fun p hp z=>?_⟩
 ·cases q:X.s₀.heap.get? b with
  | none=>rfl
  | some ob =>
   obtain ⟨o',q'⟩:=I.base.there b ob q (by rw [hex]; simp)
   rw [hb] at q'; cases q'
 ·obtain ⟨m,⟨o,es,ep,e,_⟩,_⟩:=I.loc
  rw [← z,hb] at e; cases e
 ·obtain ⟨v,o,q,_⟩:=I.cell x c e
  rw [z,hb] at q; cases q
 ·have q:=(I.pin p hp).1
  rw [z,hb] at q; cases q
theorem Inv.touch (I:Inv X pins σ H s) (hex:X.ex=[]) {h':Heap}{wr:List Addr} (keep:∀ b o,s.heap.get? b=some o→b∉wr→b∉frs X.stack→h'.get? b=some o)
  (slot:∀ b o,s.heap.get? b=some o→b∉wr→∃ sl,h'.get? b=some { o with slots:=sl }) (there:∀ b o,s.heap.get? b=some o→∃ o',h'.get? b=some o') (hw:∀ b∈wr,New1 X pins H b):Inv X pins σ H { s with heap:=h' }:=by
 have ex:∀ b,b∉X.ex:=fun b hb=>by rw [hex] at hb; cases hb
 have n0:∀ b ob,X.s₀.heap.get? b=some ob→b∉wr:=fun b ob q m=>by rw [(hw b m).s0] at q; cases q
 have nL:∀ b ob,X.s₀.heap.get? b=some ob→b≠X.env.locals:=fun b ob q=>Nat.ne_of_lt (Nat.lt_of_lt_of_le (Heap.lt_size q) I.ok.above)
 have nS:∀ b,b≠X.env.locals→b∉X.fs→b∉frs X.stack:=fun b h1 h2 m=>(List.mem_cons.mp (I.stkSub b m)).elim h1 h2
 refine ⟨I.ok,I.os,I.bare,⟨fun b ob q n hb _=>?_,fun b ob q n hb _=>?_,fun b ob q n _=>I.base.free b ob q n (ex b),fun b ob q _=>?_,I.base.tups,I.base.frzs,I.base.tbls⟩,?_,fun x c e=>?_,I.free,I.freeC,fun p hp=>?_,?_,I.len⟩
 ·exact keep b ob (I.base.keep b ob q n hb (ex b)) (n0 b ob q) (nS b (nL b ob q) hb)
 ·obtain ⟨sl,q1⟩:=I.base.slot b ob q n hb (ex b)
  obtain ⟨sl',q2⟩:=slot b _ q1 (n0 b ob q)
  exact ⟨sl',q2⟩
 ·obtain ⟨o',q1⟩:=I.base.there b ob q (ex b)
  exact there b o' q1
 ·obtain ⟨m,⟨o,es,ep,e,d,r⟩,hv⟩:=I.loc
  obtain ⟨sl,e'⟩:=slot _ _ e fun z=>(hw _ z).l rfl
  refine ⟨m,⟨_,es,ep,e',d,r⟩,fun i x v h1 h2 h3=>?_⟩
  obtain ⟨u,r,l⟩:=hv i x v h1 h2 h3
  refine ⟨u,r,?_⟩
  rcases l with l | ⟨k,c,e1,o2,e2,d2⟩
  ·exact .inl l
  ·obtain ⟨sl2,e3⟩:=slot _ _ e2 fun z=>(hw _ z).c x c e1 rfl
   exact .inr ⟨k,c,e1,_,e3,d2⟩
 ·obtain ⟨v,o2,e2,d2⟩:=I.cell x c e
  obtain ⟨sl2,e3⟩:=slot _ _ e2 fun z=>(hw _ z).c x c e rfl
  exact ⟨v,_,e3,d2⟩
 ·obtain ⟨p1,p2,p3,p4,p5⟩:=I.pin p hp
  exact ⟨keep _ _ p1 (fun z=>(hw _ z).p p hp rfl) (nS _ p3 p4),p2,p3,p4,p5⟩
 ·exact fun a o q=>(I.hok a o q).stay (fun b u hb r=>by
   have hs:∃ z,H b=some z:=by
    rcases hb with rfl | hb
    ·exact ⟨o,q⟩
    ·exact ⟨_,hb⟩
   obtain ⟨z,hz⟩:=hs
   refine keep b u r (fun m=>?_) fun m=>?_
   ·rw [(hw b m).h] at hz; cases hz
   ·rw [I.stkFree b m] at hz; cases hz) (fun _ r=>r) fun _ _ r=>r
noncomputable def Cx.marked (X:Cx) (e:Addr):Cx:={ X with A:=X.A.mark (some (.ref e)),calm:=false,xe:=fun _ _=>False }
theorem Inv.marked (I:Inv X pins σ H s) (e:Addr):Inv (X.marked e) pins σ H s :=
 ⟨⟨I.ok.mod,I.ok.kind,I.ok.glob,I.ok.blt,I.ok.above,I.ok.inj,I.ok.has,I.ok.cab,fun z=>(by cases z),I.ok.frames,I.ok.stk,I.ok.exf,I.ok.bs,I.ok.bsz,I.ok.noex,I.ok.exfs,I.ok.funs,I.ok.frf⟩,I.os,I.bare,I.base,I.loc,I.cell,I.free,I.freeC,I.pin,I.hok,I.len⟩
theorem Inv.unmark {e:Addr} (ok:X.Ok) (I:Inv (X.marked e) pins σ H s):Inv X pins σ H s:=⟨ok,I.os,I.bare,I.base,I.loc,I.cell,I.free,I.freeC,I.pin,I.hok,I.len⟩
theorem SP.unmark {e:Addr}{D:Ends}{f:Flow} (ok:X.Ok) (h:SP (X.marked e) pins D f s):SP X pins D f s:=by
 cases f with
 | next=>obtain ⟨σ',H',I,q⟩:=h; exact ⟨σ',H',I.unmark ok,q⟩
 | brk=>obtain ⟨σ',H',I,q⟩:=h; exact ⟨σ',H',I.unmark ok,q⟩
 | cont=>obtain ⟨σ',H',I,q⟩:=h; exact ⟨σ',H',I.unmark ok,q⟩
 | ret u=>obtain ⟨v,σ',H',I,r,q⟩:=h; exact ⟨v,σ',H',I.unmark ok,r,q⟩
inductive HsOk (X:Cx) (j:Nat):List ExceptHandler→List (Addr × Str)→Prop
 | nil:HsOk X j [] []
 | cons {x y w:Str}{p q q2 q3 q4:Pos}{jj:Nat}{C:Addr}{r:List ExceptHandler}{ws:List (Addr × Str)} (hg:Gl X x) (hm:X.mg x=some (.ref C)) (hd:(x == ("__debug__":Str))=false) (hy:X.N[j]?=some y) (hl:X.env.scope.names.lookup y=some .local) (t:HsOk X j r ws) :
   HsOk X j (.ExceptHandler (some (.Name x p)) none [.Assign [.Name y q] (.Constant (.str w) jj q2) q3] q4::r) ((C,w)::ws)
inductive zHC (K:W.Frag) (cls:Value):List (Addr × Str)→Str→Prop
 | here {C:Addr}{w:Str}{r:List (Addr × Str)} (h:W.exmOne K cls (.ref C)=some true):zHC K cls ((C,w)::r) w
 | there {C:Addr}{v w:Str}{r:List (Addr × Str)} (h:W.exmOne K cls (.ref C)=some false) (t:zHC K cls r w):zHC K cls ((C,v)::r) w
theorem zI5 {e T:Addr}{cls:Value}{j:Nat}{ws:List (Addr × Str)}{w:Str} (pk:zHC X.K cls ws w) (hex:X.ex=[]) (hN:X.N.Nodup) (I:Inv X pins σ H s) (tr:Trc s.heap e T cls) (nT:New1 X pins H T) {D:Ends} (hD:D.nx (σ.set j (some (.str w))) H) {E':Value→Shared→Prop} :
  ∀ {hs:List ExceptHandler},HsOk X j hs ws→wpAny (model X.prog X.w) X.A (handleBy (.ref e) X.env hs) (SP X pins D) E' s:=by
 obtain ⟨oe,vs,oT,ts,he,hcls,hd,h1,nTe,hT,hdT,h3⟩:=tr
 have LT:W.Looks (model X.prog X.w) s.heap (typeOf (.ref e)) cls:=hcls▸(W.Looks.ld he).andThen .now
 induction pk with
 | @here C w r h =>
  intro hs hk
  cases hk with
  | @cons x y w p q q2 q3 q4 jj C r ws hg hm hdb hy hl t =>
   refine wpAny_handleBy_cons (codeAny_handlers_test (zBQ (I.marked e) hg hm ?_ hdb)) (by intro q; cases q)
   refine W.exm_one I.kIn LT h _ _ _ s (fun _ _ z=>z) ?_
   refine codeAny_handlers_suite (wpAny_setFlight_none he hd h1 hT hdT (Array.getElem?_eq_some_iff.mp h3).1 ?_)
   have up:∀ b,b≠T→(s.heap.update T (Obj.mapFields (·.setIfInBounds 3 .none))).get? b=s.heap.get? b:=fun b hb=>Heap.get?_update_other _ _ (Ne.symm hb)
   have I2:=by
    refine I.touch hex (wr:=[T]) (fun b o q n _=>(up b (by simpa using n)).trans q) (fun b o q n=>⟨o.slots,(up b (by simpa using n)).trans q⟩) (fun b o q=>?_) fun b hb=>by simp at hb; subst hb; exact nT
    by_cases z:b=T
    ·subst z
     exact ⟨_,Heap.get?_update_self _ hT (Obj.isFreed_of_fields (Obj.data_mapFields hdT _))⟩
    ·exact ⟨o,(up b z).trans q⟩
   have ps:PSs (X.marked e) [.Assign [.Name y q] (.Constant (.str w) jj q2) q3] (tSeq (tAsg (tC (.str w)) (zFV j)) zNa):=zBj (zFk zPi (zC6 hN hy (.inl hl) (.inr hl))) zFL
   exact wpAny_mono (ps pins _ σ H D (I2.marked e) hD) (fun f s2 z=>z.unmark I.ok) fun _ _ z=>False.elim z
 | @there C v w r h t ih =>
  intro hs hk
  cases hk with
  | @cons x y w' p q q2 q3 q4 jj C r ws hg hm hdb hy hl tl =>
   refine wpAny_handleBy_cons (codeAny_handlers_test (zBQ (I.marked e) hg hm ?_ hdb)) (by intro q; cases q)
   refine W.exm_one I.kIn LT h _ _ _ s (fun _ _ z=>z) ?_
   exact ih hD tl
def LamC (X:Cx) (f:Addr) (H:Hp) (Q:VK) (E:XK):Prop:=∀ pins σ s,Inv X pins σ H s→W.FnAt f s.heap∧codeAny (model X.prog X.w) X.A (.call (.ref f) ⟨[],[]⟩) (CR (CX1 X.prog X.w) X.stack X.prog X.w H s Q E) s
noncomputable def tTake (X:Cx) (i j:Nat) (ws:List (Addr × Str)) (f:Addr):TS:=fun D σ H=>σ[i]?=some (some (.ref f))∧LamC X f H (fun _ H'=>D.nx σ H') fun C _ H'=>∃ w,zHC X.K C ws w∧D.nx (σ.set j (some (.str w))) H'
theorem zQq {i j:Nat}{x:Str}{p1 p2 p3 p4:Pos}{h0:ExceptHandler}{hs:List ExceptHandler}{ws:List (Addr × Str)}{f:Addr} (stk:X.stack=X.env::X.outer) (fr:X.env.frame=some X.env.locals) (hex:X.ex=[]) (hN:X.N.Nodup) (hi:X.N[i]?=some x) (hv:Vis X.env.scope x)
  (hdb:(x == ("__debug__":Str))=false) (hcd:(x == ("__classdict__":Str))=false) (hk:HsOk X j (h0::hs) ws):PS X (.Try [.Expr (.Call (.Name x p1) [] [] p2) p3] (h0::hs) [] [] p4) (tTake X i j ws f):=by
 intro pins s σ H D I h
 obtain ⟨hf,lc⟩:=h
 refine wpAny_Try_except (wpAny_execs_cons (wpAny_Expr_any (wpAny_Call_Name_kw ?_) I.quiet (by rfl)))
 refine wpAny_mono (zFm (X:=X.nox) hi hv hdb hcd pins s σ H (fun v H1=>v=.ref f∧H1=H) (I.wish _) ⟨.ref f,hf,rfl,rfl⟩) (fun u s1 z=>?_) fun _ _ z=>False.elim z
 ·obtain ⟨v,H1,I1,r,e1,e2⟩:=z
  have I1:=I1.unwish
  subst e1 e2
  have eu:=r
  subst eu
  obtain ⟨fa,run⟩:=lc pins σ s1 I1
  refine W.callWith_F0 fa (wpAny_call (codeAny_mono run fun r s2 h=>?_))
  cases r with
  | error ev =>
   obtain ⟨e,T,C,H',rfl,tr,ne,nT,os,bare,un,hok,he,hT,w,pk,hD⟩:=h
   have I':=I1.call' os un hok bare fun b z=>absurd z (by simp)
   have fl:=I'.stack
   have frm:=I'.ok.frames
   rw [stk] at fl frm
   refine zDZ frm fl fr tr fun h' lf=>?_
   rw [← stk] at lf
   obtain ⟨T',hT',tr'⟩:=lf.tr
   have I2:=I'.touch hex lf.keep lf.slot lf.there fun b hb=>by
    simp only [List.mem_cons,List.not_mem_nil,or_false] at hb
    rcases hb with rfl | rfl
    ·exact I1.new1 hex ne he
    ·exact I1.new1 hex nT hT
   exact zI5 pk hex hN I2 tr' (I'.new1 hex (Heap.get?_none_of_le hT') (I'.hok.fresh hT')) hD hk
  | ok fl =>
   cases fl with
   | ret u =>
    obtain ⟨v,H',I',_,q⟩:=I1.after h
    exact wpAny_execs_nil (wpAny_execs_nil ⟨σ,H',I',q⟩)
   | next=>exact False.elim h
   | brk=>exact False.elim h
   | cont=>exact False.elim h
end
open PySem PySem.Spec PyProof.Rows
noncomputable def zKq (c y y':Str) (h0:ExceptHandler) (hs:List ExceptHandler) (p1 p2 p3 p4 p5 p6 p7 p8 p9:Pos) (j:Nat):List Stmt :=
 [.Assign [.Name y p1] (.Constant .none j p2) p3,.Try [.Expr (.Call (.Name c p4) [] [] p5) p6] (h0::hs) [] [] p7,.Return (some (.Name y' p8)) p9]
section
variable {X:Cx}
theorem zKV {c y:Str}{h0:ExceptHandler}{hs:List ExceptHandler}{p1 p2 p3 p4 p5 p6 p7 p8 p9:Pos}{j:Nat}{ws:List (Addr × Str)}{f:Addr}{H:Hp}{D:Ends} (stk:X.stack=X.env::X.outer) (fr:X.env.frame=some X.env.locals) (hex:X.ex=[]) (hN:X.N=[c,y]) (nd:c≠y)
  (hv:Vis X.env.scope c) (hc1:(c == ("__debug__":Str))=false) (hc2:(c == ("__classdict__":Str))=false) (hl:X.env.scope.names.lookup y=some .local) (hy1:(y == ("__debug__":Str))=false) (hy2:(y == ("__classdict__":Str))=false) (hk:HsOk X 1 (h0::hs) ws)
  (lc:LamC X f H (fun _ H'=>D.rt .non H') fun C _ H'=>∃ w,zHC X.K C ws w∧D.rt (.str w) H') {pins:List (Addr × Obj)}{s:Shared} (I:Inv X pins (start [c,y] [.ref f]) H s) :
  wpAny (model X.prog X.w) X.A (execs (zKq c y y h0 hs p1 p2 p3 p4 p5 p6 p7 p8 p9 j) X.env) (SP X pins D) X.xe s:=by
 have i0:X.N[0]?=some c:=by rw [hN]; rfl
 have i1:X.N[1]?=some y:=by rw [hN]; rfl
 have hn:X.N.Nodup:=by rw [hN]; simp [nd]
 have a:=zFk (pos:=p3) (zL3 (j:=j) (pos:=p2)) (zC6 (pos:=p1) hn i1 (.inl hl) (.inr hl))
 have b:=zQq (p1:=p4) (p2:=p5) (p3:=p6) (p4:=p7) (f:=f) stk fr hex hn i0 hv hc1 hc2 hk
 have r:=zKW (pos:=p9) (zFm (pos:=p8) i1 (.inl hl) hy1 hy2)
 refine zBj a (zBj b (zBj r zFL)) pins s _ H D I ⟨rfl,fun pins σ s I=>?_⟩
 obtain ⟨z1,z2⟩:=lc pins σ s I
 refine ⟨z1,codeAny_mono z2 fun r s' q=>?_⟩
 cases r with
 | error ev =>
  obtain ⟨e,T,C,H',rfl,tr,ne,nT,os,bare,un,hok,he,hT,w,pk,hD⟩:=q
  exact ⟨e,T,C,H',rfl,tr,ne,nT,os,bare,un,hok,he,hT,w,pk,.str w,rfl,hD⟩
 | ok fl =>
  cases fl with
  | ret u =>
   obtain ⟨v,H',os,bare,un,hok,r,q⟩:=q
   exact ⟨v,H',os,bare,un,hok,r,.non,rfl,q⟩
  | next=>exact q
  | brk=>exact q
  | cont=>exact q
end
section
variable {P:Program}{w:World}{K:W.Frag}{mg:Str→Option Value}{base:Heap}
theorem zKu {x c y:Str}{st:Stmt}{fa f:Addr}{fd:FuncData}{h0:ExceptHandler}{hs:List ExceptHandler}{p1 p2 p3 p4 p5 p6 p7 p8 p9:Pos}{j:Nat}{ws:List (Addr × Str)}{A:Around}{outer:List Env}{s:Shared}{H:Hp}{Q:VK} (F:Fun K x x st fa fd) (S:zBw [c,y] [c] (zA1 st)) (hb:zBN K fd [c] [])
  (hbody:zAc st=zKq c y y h0 hs p1 p2 p3 p4 p5 p6 p7 p8 p9 j) (hc1:(c == ("__debug__":Str))=false) (hc2:(c == ("__classdict__":Str))=false) (hl:(zA1 st).names.lookup y=some .local) (hy1:(y == ("__debug__":Str))=false) (hy2:(y == ("__classdict__":Str))=false)
  (hd:A.depth<recursionLimit) (hh:A.handled=none) (e0:Env0 P w K mg base A outer s H)
  (hk:∀ cdv,HsOk (cxOf CX0 P w K mg base [c,y] x (zA1 st) fa cdv A outer s H E0) 1 (h0::hs) ws)
  (lc:∀ cdv,LamC (cxOf CX0 P w K mg base [c,y] x (zA1 st) fa cdv A outer s H E0) f H (fun _ H'=>Q .non H') fun C _ H'=>∃ w,zHC K C ws w∧Q (.str w) H') :
  codeAny (model P w) A (.call (.ref fa) ⟨[.ref f],[]⟩) (CR CX0 outer P w H s Q E0) s:=by
 obtain ⟨oc,od,kV,doc,pm,an,cdv,ct,osl,rfl,lk,hcd⟩:=F.ex
 have KX:=e0.mod.kin.keeps fun b o e=>(e0.bs b o e).1
 have lim:=e0.mod.nolimit.keeps fun b o e=>(e0.bs b o e).1
 have hkind:∀ z∈[(c,Value.ref f)],(zA1 st).names.lookup z.1=some .local∨((zA1 st).names.lookup z.1=some .cell∧((cellsFrom (s.heap.objs.size+1) (zA1 st).names []).lookup z.1).isSome=true):=fun z hz=>by
  simp only [List.mem_cons,List.not_mem_nil,or_false] at hz
  subst hz
  rcases S.par c (by simp) with q | q
  ·exact .inl q
  ·exact .inr ⟨q,W.cellsFrom_some _ _ _ (.inl q)⟩
 refine codeAny_call_function hd (KX _ _ lk) rfl S.co S.gen rfl (W.codeRec_of KX hcd) (hb s [.ref f] KX rfl _ _ _ _ (wpAny_newFunctionEnv_cells S.kind hkind fun env he s1 z=>?_))
 subst he
 refine ⟨lim.keeps z.toInCall.keep,codeAny_func ?_⟩
 have I:Inv (cxOf CX0 P w K mg base [c,y] x (zA1 st) fa cdv A outer s H E0) [] (start [c,y] [.ref f]) H s1:=zEb S hh e0 rfl (.cons rfl .nil) z
 rw [hbody]
 have nd:=by have:=S.nd; simp at this; exact this
 have hv:Vis (zA1 st) c:=(S.par c (by simp)).elim .inl fun q=>.inr (.inl q)
 refine wpAny_mono (zKV (D:={ nx:=fun _ H'=>Q .non H',rt:=Q }) rfl rfl rfl rfl nd hv hc1 hc2 hl hy1 hy2 (hk cdv) (lc cdv) I) (fun fl s' q=>?_) fun e s' q=>q
 cases fl with
 | ret u =>
  obtain ⟨v,σ',H',J,rv,q⟩:=q
  exact ⟨v,H',J.os,J.bare,J.base,J.hok,rv,q⟩
 | next =>
  obtain ⟨σ',H',J,q⟩:=q
  exact ⟨.non,H',J.os,J.bare,J.base,J.hok,rfl,q⟩
 | brk =>
  obtain ⟨_,_,_,q⟩:=q
  exact False.elim q
 | cont =>
  obtain ⟨_,_,_,q⟩:=q
  exact False.elim q
end
open PySem PySem.Spec PyProof.Rows
structure ExcG (K:W.Frag) (C:Addr):Prop where
 ga:W.findIn K (.ref C) "__getattribute__"=some (some (.builtin "BaseException.__getattribute__"))
 cl:W.findIn K (.ref C) "__class__"=some (some (.builtin "object.__class__"))
 mo:W.mroIn K C (.type "object")=some true
 mb:W.mroIn K C (.type "BaseException")=some true
 gn:W.findIn K (.ref C) "__getattr__"=some none
 it:(W.clsIn K C).isSome=true
section
open PySem.W Builtin Builtin.ObjectAttr Builtin.Getset_descriptor
variable {prog:Program}{w:World}{A:Around}{E:Value→Shared→Prop}{s:Shared}{K:W.Frag}{e C:Addr}{oe:Obj}
theorem zD1 {h:Heap} (he:h.get? e=some oe) (hc:oe.cls=.ref C) {M:Model}:W.Looks M h (typeOf (.ref e)) (.ref C):=hc▸(W.Looks.ld he).andThen .now
theorem zOH {R:Result→Shared→Prop}{tp:Value} (X:K.In s.heap) (g:ExcG K C) (he:s.heap.get? e=some oe) (hc:oe.cls=.ref C) (h:R (.ok (.ret (.ref C))) s) :
  codeAny (model prog w) A (.call (.builtin "getset_descriptor.__get__") ⟨[.builtin "object.__class__",.ref e,tp],[]⟩) R s:=by
 have L0:=zD1 he hc (M:=model prog w)
 have L1:=W.looks_mroIn (M:=model prog w) X g.mo
 refine codeAny_call_builtin KF.slot_gs.plain KF.entry_gs (KF.slot_gs.check _ _ _ _ _ _ _ _ KF.type_class (KF.args_gs _ _ _) ?_)
 unfold Builtin.«getset_descriptor.__get__» descrGet
 rw [dga_obj]
 refine wpAny_bind (wpAny_pure ?_)
 unfold descrGetter descrCheckInstance descrNameAndClass isInstance
 simp only [KF.owner_class]
 repeat lk
 refine ⟨Code.quiet_builtin _ (by decide +kernel),codeAny_builtin KF.entry_class ?_⟩
 repeat lk
 exact h
theorem zM2 {M:Model}{nameV:Value}{Q:Unit→Shared→Prop} (X:K.In s.heap) (g:ExcG K C) (he:s.heap.get? e=some oe) (hc:oe.cls=.ref C) (hq:Q () s):wpAny M A (checkBuiltinCall "BaseException.__getattribute__" ⟨[.ref e,nameV],[]⟩) Q E s:=by
 have L0:=zD1 he hc (M:=M)
 have L1:=W.looks_mroIn (M:=M) X g.mb
 refine wpAny_bind ?_
 refine wpAny_bind (L0.at (L1.at ?_))
 repeat (first | assumption | wp_step)
theorem zM0 {tk:Tok}{Q:Fin→Shared→Prop} (X:K.In s.heap) (g:ExcG K C) (he:s.heap.get? e=some oe) (hc:oe.cls=.ref C) (hq:Q (.done (.ret (.ref C))) s) :
  wpAny (model prog w) A (Builtin.«object.__getattribute__» ⟨[.ref e,.str "__class__" tk],[]⟩) Q E s:=by
 obtain ⟨hh,g',dr,t,os⟩:=s
 have L0:=zD1 he hc (M:=model prog w)
 have L1:=W.looks_findIn (M:=model prog w) X g.cl
 have hT5:=KF.type_class
 have f6:=F.slot_gs_get.lookup
 have f7:=F.slot_gs_set.lookup
 repeat (any_goals (first | assumption | with_reducible refine W.Looks.at (by assumption) ?_ | wp_step))
 refine zOH X g he hc ?_
 repeat (any_goals (first | assumption | wp_step))
theorem zM1 {Q:Option Value→Shared→Prop} (X:K.In s.heap) (g:ExcG K C) (he:s.heap.get? e=some oe) (hc:oe.cls=.ref C) (h:Q (some (.ref C)) { s with toks:=s.toks+1 }) :
  wpAny (model prog w) A (getAttr? (.ref e) "__class__") Q E s:=by
 obtain ⟨hh,g',dr,t,os⟩:=s
 have L0:=zD1 he hc (M:=model prog w)
 have L1:=W.looks_findIn (M:=model prog w) X g.ga
 have L2:=W.looks_findIn (M:=model prog w) X g.gn
 refine wpAny_bind (wpAny_mkText ?_)
 refine wpAny_bind (wpAny_attempt (wpAny_holding (wpAny_bind (L0.at (wpAny_bind (L1.at ?_))))))
 refine wpAny_bind (L2.at ?_)
 refine wpAny_bind (wpAny_attempt (wpAny_holding ?_))
 refine wpAny_call (codeAny_call_builtin F.attr_ValueError.ga.plain F.entry_bexc_ga (zM2 X g he hc (zM0 (s:=⟨hh,g',dr,t+1,os⟩) X g he hc ?_)))
 repeat (any_goals (first | assumption | wp_step))
theorem zOg (g:ExcG K C):KitX K (.ref e) (.ref C) (fun h=>∃ oe,h.get? e=some oe∧oe.cls=.ref C) where
 ty:=fun M h X p=>by obtain ⟨oe,he,hc⟩:=p; exact zD1 he hc
 it:=fun _ _ X _=>by
  have hcD:=g.it
  unfold clsIn at hcD
  split at hcD
  ·rename_i c' d' cd' sl' ho
   intro A' Q' E' s' k q
   exact wpAny_bind (wpAny_loadPart (k _ _ (X _ _ ho)) (wpAny_pure q))
  ·cases hcD
 ne:=fun h tp dd its n sl X htp=>by
  have hcD:=g.it
  refine Bool.eq_false_iff.mpr fun q=>?_
  have e:=Value.ref.inj (beq_iff_eq.mp q)
  subst e
  unfold clsIn at hcD
  split at hcD
  ·rename_i c' d' cd' sl' ho
   have z:=(X _ _ ho).symm.trans htp
   cases z
  ·cases hcD
 ca:=fun X p k=>by obtain ⟨oe,he,hc⟩:=p; exact zM1 X g he hc k
end
open PySem PySem.Spec PyProof.Rows
section
variable {X:Cx}{pins:List (Addr × Obj)}{σ:St}{H H':Hp}{s:Shared}
noncomputable def xrec (e:Addr) (oe:Obj):HO:=.frz oe (.ext fun h=>h.get? e=some oe)
theorem Inv.adopt (I:Inv X pins σ H s) (hex:X.ex=[]) {e:Addr}{oe:Obj} (n:New1 X pins H e) (he:s.heap.get? e=some oe):Inv X pins σ (upd H e (xrec e oe)) s:=by
 have ne:∀ b u,H b=some u→b≠e:=fun b u q z=>by rw [z,n.h] at q; cases q
 have n0:∀ b ob,X.s₀.heap.get? b=some ob→b≠e:=fun b ob q z=>by rw [z,n.s0] at q; cases q
 refine ⟨I.ok,I.os,I.bare,⟨I.base.keep,I.base.slot,fun b o q z hx=>?_,I.base.there,fun b xs q=>?_,fun b o u q=>?_,fun b ps q=>?_⟩,I.loc,I.cell,?_,fun x c q=>?_,fun p hp=>?_,fun a o q=>?_,I.len⟩
 ·rw [zA5 (n0 b o q)]; exact I.base.free b o q z hx
 ·have:=I.base.tups b xs q; rw [zA5 (ne _ _ this)]; exact this
 ·have:=I.base.frzs b o u q; rw [zA5 (ne _ _ this)]; exact this
 ·obtain ⟨m,this⟩:=I.base.tbls b ps q; exact ⟨m,by rw [zA5 (ne _ _ this)]; exact this⟩
 ·rw [zA5 (Ne.symm n.l)]; exact I.free
 ·rw [zA5 (n.c x c q)]; exact I.freeC x c q
 ·obtain ⟨p1,p2,p3⟩:=I.pin p hp
  exact ⟨p1,by rw [zA5 (n.p p hp)]; exact p2,p3⟩
 ·by_cases z:a=e
  ·subst z
   rw [zA4] at q; cases q
   exact ⟨he,he,⟨oe,he⟩,fun h1 h2 p q=>q _ p⟩
  ·rw [zA5 z] at q
   exact (I.hok a o q).stay (fun b u hb r=>r) (fun b r=>by rw [zA5 (ne _ _ r)]; exact r) fun b xs r=>by rw [zA5 (ne _ _ r)]; exact r
theorem zLj {M:Model}{A:Around}{E:Value→Shared→Prop}{i:Nat}{x:Str}{pos:Pos}{Q:Unit→Shared→Prop} (I:Inv X pins σ H s) (hN:X.N.Nodup) (hi:X.N[i]?=some x) (hk:X.env.scope.names.lookup x=some .local)
  (h:∀ s',Inv X pins (σ.set i none) H s'→Q () s'):wpAny M A (do bindName X.env x .none; unbindBehindTheSuite X.env x pos) Q E s:=by
 obtain ⟨m,hn,hl⟩:=id I.loc
 have hcls:(X.env.scope.kind == .class||(X.env.scope.kind == .module&&X.env.locals != X.env.globals))=false:=by rw [I.ok.kind]; rfl
 have hiσ:i<σ.length:=by rw [I.len]; exact (List.getElem?_eq_some_iff.mp hi).1
 have cne:=I.cne
 refine wpAny_nameGoes_keeps hk hn hcls fun h' u hn' hs=>?_
 refine h { s with heap:=h',toks:=s.toks+1 } ⟨I.ok,I.os,I.bare,⟨fun b o e n hb hx=>?_,fun b o e n hb hx=>?_,I.base.free,fun b o e hx=>?_,I.base.tups,I.base.frzs,I.base.tbls⟩,⟨_,hn',fun j y v' e1 e2 e3=>?_⟩,fun y c e=>?_,I.free,I.freeC,fun p hp=>?_,fun b ob e=>?_,by simpa using I.len⟩
 ·exact (hs.2 b (Nat.ne_of_lt (Nat.lt_of_lt_of_le (Heap.lt_size e) I.ok.above))).trans (I.base.keep b o e n hb hx)
 ·obtain ⟨sl,e1⟩:=I.base.slot b o e n hb hx
  exact ⟨sl,(hs.2 b (Nat.ne_of_lt (Nat.lt_of_lt_of_le (Heap.lt_size e) I.ok.above))).trans e1⟩
 ·obtain ⟨o',e1⟩:=I.base.there b o e hx
  exact ⟨o',(hs.2 b (Nat.ne_of_lt (Nat.lt_of_lt_of_le (Heap.lt_size e) I.ok.above))).trans e1⟩
 ·by_cases hj:j=i
  ·simp_all
  ·rw [List.getElem?_set_ne (Ne.symm hj)] at e2
   obtain ⟨u',r',q⟩:=hl j y v' e1 e2 e3
   refine ⟨u',r',?_⟩
   rcases q with ⟨k,e⟩ | ⟨k,c,e,z⟩
   ·refine .inl ⟨k,?_⟩
    have:y≠x:=fun e=>hj (zFO hN e1 (e▸hi))
    simp [this,e]
   ·exact .inr ⟨k,c,e,z.sameBut hs (cne y c e)⟩
 ·obtain ⟨w',z⟩:=I.cell y c e
  exact ⟨w',z.sameBut hs (cne y c e)⟩
 ·obtain ⟨e,n,ne,nf,d⟩:=I.pin p hp
  exact ⟨(hs.2 p.1 ne).trans e,n,ne,nf,d⟩
 ·refine (I.hok b ob e).stay (fun c w' hc q=>(hs.2 c ?_).trans q) (fun _ q=>q) fun _ _ q=>q
  rintro rfl
  rcases hc with rfl | hc
  ·rw [I.free] at e; cases e
  ·rw [I.free] at hc; cases hc
theorem zLM {e T C:Addr}{cls:Value}{i j:Nat}{x en y:Str}{p q q2 q3 q4:Pos} (hx:W.exmOne X.K cls (.ref C)=some true) (hex:X.ex=[]) (hN:X.N.Nodup) (I:Inv X pins σ H s) (tr:Trc s.heap e T cls) (nT:New1 X pins H T) (nE:New1 X pins H e)
  (hg:Gl X x) (hm:X.mg x=some (.ref C)) (hdb:(x == ("__debug__":Str))=false) (hi:X.N[i]?=some en) (hle:X.env.scope.names.lookup en=some .local) (hn1:(en == ("__debug__":Str))=false) (hn2:(en == ("__classdict__":Str))=false) (hy:X.N[j]?=some y) (hl:X.env.scope.names.lookup y=some .local)
  {D:Ends} (hD:∀ oe,oe.cls=cls→D.nx (((σ.set i (some (.ref e))).set j (some (.ref e))).set i none) (upd H e (xrec e oe))) {E':Value→Shared→Prop} :
  wpAny (model X.prog X.w) X.A (handleBy (.ref e) X.env [.ExceptHandler (some (.Name x p)) (some en) [.Assign [.Name y q] (.Name en q2) q3] q4]) (SP X pins D) E' s:=by
 obtain ⟨oe,vs,oT,ts,he,hcls,hd,h1,nTe,hT,hdT,h3⟩:=tr
 have LT:W.Looks (model X.prog X.w) s.heap (typeOf (.ref e)) cls:=hcls▸(W.Looks.ld he).andThen .now
 refine wpAny_handleBy_cons (codeAny_handlers_test (zBQ (I.marked e) hg hm ?_ hdb)) (by intro q; cases q)
 refine W.exm_one I.kIn LT hx _ _ _ s (fun _ _ z=>z) ?_
 refine codeAny_handlers_suite_as (wpAny_setFlight_none he hd h1 hT hdT (Array.getElem?_eq_some_iff.mp h3).1 ?_)
 have up:∀ b,b≠T→(s.heap.update T (Obj.mapFields (·.setIfInBounds 3 .none))).get? b=s.heap.get? b:=fun b hb=>Heap.get?_update_other _ _ (Ne.symm hb)
 have I2:=by
  refine I.touch hex (wr:=[T]) (fun b o q n _=>(up b (by simpa using n)).trans q) (fun b o q n=>⟨o.slots,(up b (by simpa using n)).trans q⟩) (fun b o q=>?_) fun b hb=>by simp at hb; subst hb; exact nT
  by_cases z:b=T
  ·subst z
   exact ⟨_,Heap.get?_update_self _ hT (Obj.isFreed_of_fields (Obj.data_mapFields hdT _))⟩
  ·exact ⟨o,(up b z).trans q⟩
 have I3:=I2.adopt hex nE ((up e (Ne.symm nTe)).trans he)
 refine zIM (v:=.ref e) I3 hN hi (.inl hle) rfl (fun s4 I4=>?_) (.inr hle)
 have ps:PSs (X.marked e) [.Assign [.Name y q] (.Name en q2) q3] (tSeq (tAsg (tVar i) (zFV j)) zNa):=zBj (zFk (zFm hi (.inl hle) hn1 hn2) (zC6 hN hy (.inl hl) (.inr hl))) zFL
 have hiσ:i<σ.length:=by rw [I.len]; exact (List.getElem?_eq_some_iff.mp hi).1
 refine wpAny_mono (ps pins s4 _ _ { nx:=fun σ' H'=>σ'=(σ.set i (some (.ref e))).set j (some (.ref e))∧H'=upd H e (xrec e oe),rt:=fun _ _=>False } (I4.marked e) ⟨.ref e,by rw [List.getElem?_set_self hiσ],rfl,rfl⟩) (fun f s5 z=>?_) fun _ _ z=>False.elim z
 cases f with
 | next =>
  obtain ⟨σ',H',J,rfl,rfl⟩:=z
  exact zLj (J.unmark I.ok) hN hi hle fun s6 J6=>⟨_,_,J6,hD oe hcls⟩
 | brk=>obtain ⟨_,_,_,z⟩:=z; exact False.elim z
 | cont=>obtain ⟨_,_,_,z⟩:=z; exact False.elim z
 | ret u=>obtain ⟨_,_,_,_,_,z⟩:=z; exact False.elim z
noncomputable def tTakeE (X:Cx) (i k j:Nat) (C:Addr) (f:Addr):TS:=fun D σ H=>σ[i]?=some (some (.ref f))∧LamC X f H (fun _ H'=>D.nx σ H') fun c _ H'=>W.exmOne X.K c (.ref C)=some true∧∀ e oe,H' e=none→oe.cls=c→D.nx (((σ.set k (some (.ref e))).set j (some (.ref e))).set k none) (upd H' e (xrec e oe))
theorem zNA {i k j:Nat}{x en y g:Str}{p1 p2 p3 p4 p q q2 q3 q4:Pos}{C f:Addr} (stk:X.stack=X.env::X.outer) (fr:X.env.frame=some X.env.locals) (hex:X.ex=[]) (hN:X.N.Nodup) (hi:X.N[i]?=some x) (hv:Vis X.env.scope x)
  (hdb:(x == ("__debug__":Str))=false) (hcd:(x == ("__classdict__":Str))=false) (hg:Gl X g) (hm:X.mg g=some (.ref C)) (hgd:(g == ("__debug__":Str))=false) (hk:X.N[k]?=some en) (hle:X.env.scope.names.lookup en=some .local) (hn1:(en == ("__debug__":Str))=false) (hn2:(en == ("__classdict__":Str))=false) (hy:X.N[j]?=some y) (hl:X.env.scope.names.lookup y=some .local) :
  PS X (.Try [.Expr (.Call (.Name x p1) [] [] p2) p3] [.ExceptHandler (some (.Name g p)) (some en) [.Assign [.Name y q] (.Name en q2) q3] q4] [] [] p4) (tTakeE X i k j C f):=by
 intro pins s σ H D I h
 obtain ⟨hf,lc⟩:=h
 refine wpAny_Try_except (wpAny_execs_cons (wpAny_Expr_any (wpAny_Call_Name_kw ?_) I.quiet (by rfl)))
 refine wpAny_mono (zFm (X:=X.nox) hi hv hdb hcd pins s σ H (fun v H1=>v=.ref f∧H1=H) (I.wish _) ⟨.ref f,hf,rfl,rfl⟩) (fun u s1 z=>?_) fun _ _ z=>False.elim z
 ·obtain ⟨v,H1,I1,r,e1,e2⟩:=z
  have I1:=I1.unwish
  subst e1 e2
  have eu:=r
  subst eu
  obtain ⟨fa,run⟩:=lc pins σ s1 I1
  refine W.callWith_F0 fa (wpAny_call (codeAny_mono run fun r s2 h=>?_))
  cases r with
  | error ev =>
   obtain ⟨e,T,c,H',rfl,tr,ne,nT,os,bare,un,hok,he,hT,hx,hD⟩:=h
   have I':=I1.call' os un hok bare fun b z=>absurd z (by simp)
   have fl:=I'.stack
   have frm:=I'.ok.frames
   rw [stk] at fl frm
   refine zDZ frm fl fr tr fun h' lf=>?_
   rw [← stk] at lf
   obtain ⟨T',hT',tr'⟩:=lf.tr
   have nE:=I1.new1 hex ne he
   have I2:=I'.touch hex lf.keep lf.slot lf.there fun b hb=>by
    simp only [List.mem_cons,List.not_mem_nil,or_false] at hb
    rcases hb with rfl | rfl
    ·exact nE
    ·exact I1.new1 hex nT hT
   exact zLM hx hex hN I2 tr' (I'.new1 hex (Heap.get?_none_of_le hT') (I'.hok.fresh hT')) nE hg hm hgd hk hle hn1 hn2 hy hl fun oe q=>hD e oe he q
  | ok fl =>
   cases fl with
   | ret u =>
    obtain ⟨v,H',I',_,q⟩:=I1.after h
    exact wpAny_execs_nil (wpAny_execs_nil ⟨σ,H',I',q⟩)
   | next=>exact False.elim h
   | brk=>exact False.elim h
   | cont=>exact False.elim h
end
open PySem PySem.Spec PyProof.Rows
inductive D where
 | non | bl (b:Bool) | int (i:Int) | str (x:Str) | ty (n:String) | tup (xs:List D) | lst (n:Nat) | dct (n:Nat) | rol (xs:List D)
 | xc (c:Str)
 | ob (n:Nat)
 | ktp (xs:List Str)
inductive O where
 | lst (xs:List D) | dk (kvs:List (Key × D)) | dt (kvs:List (List Key × D))
 | tb (x:Str)
 | fk (kvs:List (Key × D))
noncomputable abbrev zA2:=List O
noncomputable abbrev Env1:=List (Option D)
def SqF (K:W.Frag) (H:Hp) (a:Addr) (xs:List V):Prop:=(∃ o,H a=some (.frz o (.lst xs))) ∨
  ∃ (o:Obj) (its:Array Value) (n:Nat),K.lookup a=some o∧o.cls=.type "list"∧o.dict=none∧o.data=.seq its n∧its.size≤sizeLine∧Vals xs its.toList
theorem SqF.sq {K:W.Frag}{H:Hp}{a:Addr}{xs:List V} (h:SqF K H a xs):SqL K H a xs:=by
 rcases h with ⟨o,h⟩ | h
 ·exact .inl (.inr ⟨o,h⟩)
 ·exact .inr h
structure TF (K:W.Frag) (H H':Hp):Prop where
 t:TK K H H'
 f:∀ a xs,SqF K H a xs→SqF K H' a xs
 u:∀ a xs,H a=some (.tup xs)→H' a=some (.tup xs)
 z:∀ a o u,H a=some (.frz o u)→H' a=some (.frz o u)
theorem TF.refl (K:W.Frag) (H:Hp):TF K H H:=⟨TK.refl K H,fun _ _ h=>h,fun _ _ h=>h,fun _ _ _ h=>h⟩
theorem TF.trans {K:W.Frag}{H H1 H2:Hp} (a:TF K H H1) (b:TF K H1 H2):TF K H H2:=⟨a.t.trans b.t,fun p xs h=>b.f p xs (a.f p xs h),fun p xs h=>b.u p xs (a.u p xs h),fun p o u h=>b.z p o u (a.z p o u h)⟩
theorem tf_of {K:W.Frag}{H H':Hp}{p:Addr} (h:∀ q o,q≠p→H q=some o→H' q=some o) (nt:∀ xs,H p≠some (.tup xs)) (nf:∀ x y,H p≠some (.frz x y)):TF K H H':=by
 refine ⟨fun q ys e=>?_,fun q ys e=>?_,fun q ys e=>h _ _ (fun z=>nt _ (z▸e)) e,fun q o u e=>h _ _ (fun z=>nf _ _ (z▸e)) e⟩
 ·rcases e with (e | ⟨w,e⟩) | e
  ·exact .inl (.inl (h _ _ (fun z=>nt _ (z▸e)) e))
  ·exact .inl (.inr ⟨w,h _ _ (fun z=>nf _ _ (z▸e)) e⟩)
  ·exact .inr e
 ·rcases e with ⟨w,e⟩ | e
  ·exact .inl ⟨w,h _ _ (fun z=>nf _ _ (z▸e)) e⟩
  ·exact .inr e
theorem zFb {K:W.Frag}{H:Hp}{p:Addr}{u o:HO} (e:H p=some u) (nt:∀ xs,u≠.tup xs) (nf:∀ x y,u≠.frz x y):TF K H (upd H p o) :=
 tf_of (fun q v hq h=>by rw [zA5 hq]; exact h) (fun xs h=>by rw [e] at h; exact nt xs (Option.some.inj h)) (fun x y h=>by rw [e] at h; exact nf x y (Option.some.inj h))
theorem zGp {K:W.Frag}{H:Hp}{p:Addr}{xs:List V}{o:HO} (e:H p=some (.lst xs)):TF K H (upd H p o):=zFb e (fun _ z=>by cases z) (fun _ _ z=>by cases z)
theorem zKt {K:W.Frag}{H H':Hp} (h:Same H H'):TF K H H':=⟨fun p xs e=>h.tup e,fun q ys e=>by
 rcases e with ⟨w,e⟩ | e
 ·exact .inl ⟨w,h _ _ e⟩
 ·exact .inr e,fun _ _ e=>h _ _ e,fun _ _ _ e=>h _ _ e⟩
mutual
noncomputable def RV (K:W.Frag) (H:Hp) (μ:List Addr):D→V→Prop
 | .non,v=>v=.non
 | .bl b,v=>v=.bl b
 | .int i,v=>v=.int i
 | .str x,v=>v=.str x
 | .ty n,v=>v=.ty n
 | .tup xs,v=>∃ p vs,v=.ref p∧H p=some (.tup vs)∧RVs K H μ xs vs
 | .lst n,v=>∃ a,v=.ref a∧μ[n]?=some a
 | .dct n,v=>∃ a,v=.ref a∧μ[n]?=some a
 | .rol xs,v=>∃ p vs,v=.ref p∧SqF K H p vs∧RVs K H μ xs vs
 | .xc c,v=>∃ e oe C,v=.ref e∧H e=some (.frz oe (.ext fun h=>h.get? e=some oe))∧oe.cls=.ref C∧W.nsIn K mainGlobals c=some (some (.ref C))
 | .ob n,v=>∃ a o C dx b,v=.ref a∧H a=some (.frz o (.ins C dx [("kept",.ref b)]))∧μ[n]?=some b∧W.nsIn K mainGlobals "Desk"=some (some (.ref C))
 | .ktp xs,v=>∃ p,v=.ref p∧SqT K H p (xs.map V.str)
noncomputable def RVs (K:W.Frag) (H:Hp) (μ:List Addr):List D→List V→Prop
 | [],vs=>vs=[]
 | d::ds,vs=>∃ v ws,vs=v::ws∧RV K H μ d v∧RVs K H μ ds ws
end
def RKs {κ:Type} (K:W.Frag) (H:Hp) (μ:List Addr) (kvs:List (κ × D)) (ws:List (κ × V)):Prop:=kvs.map (·.1)=ws.map (·.1)∧RVs K H μ (kvs.map (·.2)) (ws.map (·.2))
def CodeT (q:Str) (H:Hp) (cv:Value):Prop:=∃ c o vs t,cv=.ref c∧H c=some (.frz o (.ext fun h=>h.get? c=some o))∧o.data=.fields vs∧vs[1]?=some (.str q t)
noncomputable def zCx (x:Str):Str:=x ++ ".<locals>." ++ "<lambda>"
structure TabT (K:W.Frag) (q:Str) (H:Hp) (a:Addr) (x:Str) (ps:Array Value):Prop where
 tab:∃ c,W.tabIn K x=some (c,a)
 ok:TriplesOk ps.toList
 code:∀ pos cv,codeAmong pos ps.toList=some cv→CodeT q H cv
noncomputable def OR (K:W.Frag) (H:Hp) (μ:List Addr) (a:Addr):O→Prop
 | .lst xs=>∃ vs,H a=some (.lst vs)∧RVs K H μ xs vs
 | .dk kvs=>∃ ws,H a=some (.dK ws)∧RKs K H μ kvs ws
 | .dt kvs=>∃ ws,H a=some (.dT ws)∧RKs K H μ kvs ws
 | .tb x=>∃ ps,H a=some (.tbl ps)∧TabT K (zCx x) H a x ps
 | .fk kvs=>∃ o ws,H a=some (.frz o (.dK ws))∧RKs K H μ kvs ws
structure SR (K:W.Frag) (μ:List Addr) (S:zA2) (H:Hp):Prop where
 len:μ.length=S.length
 nd:μ.Nodup
 obj:∀ (n:Nat) (a:Addr) (o:O),μ[n]?=some a→S[n]?=some o→OR K H μ a o
structure Step (K:W.Frag) (μ μ':List Addr) (H H':Hp):Prop where
 pre:∃ ν,μ'=μ++ν∧∀ b∈ν,H b=none
 fr:∀ b o,b∉μ→H b=some o→H' b=some o
 tk:TF K H H'
section
variable {K:W.Frag}{H H' H1 H2:Hp}{μ μ' μ1 μ2:List Addr}{S S':zA2}
mutual
theorem RV.up (tk:TF K H H') (pre:∃ ν,μ'=μ++ν):∀ (d:D) (v:V),RV K H μ d v→RV K H' μ' d v
 | .non,v,h=>by simpa [RV] using h
 | .bl b,v,h=>by simpa [RV] using h
 | .int i,v,h=>by simpa [RV] using h
 | .str x,v,h=>by simpa [RV] using h
 | .ty n,v,h=>by simpa [RV] using h
 | .tup xs,v,h=>by
  obtain ⟨p,vs,e,q,r⟩:=h
  exact ⟨p,vs,e,tk.u p vs q,RVs.up tk pre xs vs r⟩
 | .lst n,v,h=>by
  obtain ⟨a,e,q⟩:=h
  obtain ⟨ν,rfl⟩:=pre
  exact ⟨a,e,by rw [List.getElem?_append_left (List.getElem?_eq_some_iff.mp q).1]; exact q⟩
 | .dct n,v,h=>by
  obtain ⟨a,e,q⟩:=h
  obtain ⟨ν,rfl⟩:=pre
  exact ⟨a,e,by rw [List.getElem?_append_left (List.getElem?_eq_some_iff.mp q).1]; exact q⟩
 | .rol xs,v,h=>by
  obtain ⟨p,vs,e,q,r⟩:=h
  exact ⟨p,vs,e,tk.f p vs q,RVs.up tk pre xs vs r⟩
 | .xc c,v,h=>by
  unfold RV at h ⊢
  obtain ⟨e,oe,C,r,q,k⟩:=h
  exact ⟨e,oe,C,r,tk.z e oe _ q,k⟩
 | .ob n,v,h=>by
  unfold RV at h ⊢
  obtain ⟨a,o,C,dx,b,r,q,m,k⟩:=h
  obtain ⟨ν,rfl⟩:=pre
  exact ⟨a,o,C,dx,b,r,tk.z a o _ q,by rw [List.getElem?_append_left (List.getElem?_eq_some_iff.mp m).1]; exact m,k⟩
 | .ktp xs,v,h=>by
  unfold RV at h ⊢
  obtain ⟨p,r,q⟩:=h
  exact ⟨p,r,tk.t _ _ q⟩
theorem RVs.up (tk:TF K H H') (pre:∃ ν,μ'=μ++ν):∀ (ds:List D) (vs:List V),RVs K H μ ds vs→RVs K H' μ' ds vs
 | [],vs,h=>by simpa [RVs] using h
 | d::ds,vs,h=>by
  obtain ⟨v,ws,e,r,q⟩:=h
  exact ⟨v,ws,e,RV.up tk pre d v r,RVs.up tk pre ds ws q⟩
end
theorem RVs.len:∀ {ds:List D}{vs:List V},RVs K H μ ds vs→ds.length=vs.length
 | [],vs,h=>by subst h; rfl
 | d::ds,vs,h=>by
  obtain ⟨v,ws,rfl,_,q⟩:=h
  rw [List.length_cons,List.length_cons,RVs.len q]
theorem RVs.nil:RVs K H μ [] []:=by rfl
theorem RVs.cons {d:D}{v:V}{ds:List D}{vs:List V} (h:RV K H μ d v) (t:RVs K H μ ds vs):RVs K H μ (d::ds) (v::vs):=by
 exact ⟨v,vs,rfl,h,t⟩
theorem RVs.get:∀ {ds:List D}{vs:List V}{i:Nat}{d:D},RVs K H μ ds vs→ds[i]?=some d→∃ v,vs[i]?=some v∧RV K H μ d v
 | [],vs,i,d,h,e=>by simp at e
 | x::ds,vs,0,d,h,e=>by
  obtain ⟨v,ws,rfl,r,q⟩:=h
  simp at e; subst e
  exact ⟨v,rfl,r⟩
 | x::ds,vs,i+1,d,h,e=>by
  obtain ⟨v,ws,rfl,r,q⟩:=h
  obtain ⟨u,e1,e2⟩:=RVs.get q (by simpa using e)
  exact ⟨u,by simpa using e1,e2⟩
theorem RVs.append:∀ {ds es:List D}{vs us:List V},RVs K H μ ds vs→RVs K H μ es us→RVs K H μ (ds++es) (vs++us)
 | [],es,vs,us,h,g=>by subst h; exact g
 | d::ds,es,vs,us,h,g=>by
  obtain ⟨v,ws,rfl,r,q⟩:=h
  exact .cons r (RVs.append q g)
theorem RVs.take:∀ {ds:List D}{vs:List V} (n:Nat),RVs K H μ ds vs→RVs K H μ (ds.take n) (vs.take n)
 | _,_,0,_=>by exact .nil
 | [],vs,n+1,h=>by subst h; exact .nil
 | d::ds,vs,n+1,h=>by
  obtain ⟨v,ws,rfl,r,q⟩:=h
  exact .cons r (RVs.take n q)
theorem RVs.drop:∀ {ds:List D}{vs:List V} (n:Nat),RVs K H μ ds vs→RVs K H μ (ds.drop n) (vs.drop n)
 | _,_,0,h=>by simpa using h
 | [],vs,n+1,h=>by subst h; exact .nil
 | d::ds,vs,n+1,h=>by
  obtain ⟨v,ws,rfl,r,q⟩:=h
  exact RVs.drop n q
theorem RVs.set {d:D}{v:V} (g:RV K H μ d v):∀ {ds:List D}{vs:List V} (n:Nat),RVs K H μ ds vs→RVs K H μ (ds.set n d) (vs.set n v)
 | [],vs,n,h=>by subst h; exact .nil
 | x::ds,vs,0,h=>by
  obtain ⟨u,ws,rfl,r,q⟩:=h
  exact .cons g q
 | x::ds,vs,n+1,h=>by
  obtain ⟨u,ws,rfl,r,q⟩:=h
  exact .cons r (RVs.set g n q)
theorem RVs.ints {ns:List Int}:RVs K H μ (ns.map D.int) (ns.map V.int):=by
 induction ns with
 | nil=>exact .nil
 | cons a r ih=>exact .cons (by rfl) ih
theorem RKs.up {κ:Type} (tk:TF K H H') (pre:∃ ν,μ'=μ++ν) {kvs:List (κ × D)}{ws:List (κ × V)} (h:RKs K H μ kvs ws):RKs K H' μ' kvs ws:=⟨h.1,RVs.up tk pre _ _ h.2⟩
theorem SR.isS (sr:SR K μ S H) {a:Addr} (h:a∈μ):∃ o,H a=some o:=by
 obtain ⟨n,hn⟩:=List.getElem?_of_mem h
 have hl:n<S.length:=by rw [← sr.len]; exact (List.getElem?_eq_some_iff.mp hn).1
 have q:=sr.obj n a S[n] hn (List.getElem?_eq_getElem hl)
 revert q
 generalize S[n]=o
 intro q
 cases o with
 | lst xs=>obtain ⟨vs,e,_⟩:=q; exact ⟨_,e⟩
 | dk kvs=>obtain ⟨vs,e,_⟩:=q; exact ⟨_,e⟩
 | dt kvs=>obtain ⟨vs,e,_⟩:=q; exact ⟨_,e⟩
 | tb q'=>obtain ⟨vs,e,_⟩:=q; exact ⟨_,e⟩
 | fk kvs=>obtain ⟨o,vs,e,_⟩:=q; exact ⟨_,e⟩
theorem SR.out (sr:SR K μ S H) {a:Addr} (h:H a=none):a∉μ:=fun m=>by
 obtain ⟨o,e⟩:=sr.isS m
 rw [h] at e
 cases e
theorem Step.refl (K:W.Frag) (μ:List Addr) (H:Hp):Step K μ μ H H:=⟨⟨[],by simp,by simp⟩,fun _ _ _ h=>h,TF.refl K H⟩
theorem Step.mem (st:Step K μ μ' H H') {a:Addr} (h:a∈μ):a∈μ':=by
 obtain ⟨ν,rfl,_⟩:=st.pre
 exact List.mem_append_left _ h
theorem Step.ext (st:Step K μ μ' H H'):∃ ν,μ'=μ++ν:=let ⟨ν,e,_⟩:=st.pre; ⟨ν,e⟩
theorem Step.trans (a:Step K μ μ1 H H1) (b:Step K μ1 μ2 H1 H2) (nd:μ2.Nodup):Step K μ μ2 H H2:=by
 obtain ⟨ν,e,n1⟩:=a.pre
 obtain ⟨ν',e',n2⟩:=b.pre
 have nd':(μ++ν++ν').Nodup:=by rw [← e,← e']; exact nd
 refine ⟨⟨ν++ν',by rw [e',e,List.append_assoc],fun c hc=>?_⟩,fun c o hc h=>?_,a.tk.trans b.tk⟩
 ·rcases List.mem_append.mp hc with h | h
  ·exact n1 c h
  ·have hn:=n2 c h
   cases q:H c with
   | none=>rfl
   | some o =>
    have:=fun hm=>by
     have:=(List.nodup_append.mp nd').2.2 c (List.mem_append_left _ hm) c h
     exact this rfl
    rw [a.fr c o this q] at hn
    cases hn
 ·refine b.fr c o (fun hm=>?_) (a.fr c o hc h)
  rw [e] at hm
  rcases List.mem_append.mp hm with h' | h'
  ·exact hc h'
  ·rw [n1 c h'] at h; cases h
theorem OR.up (tk:TF K H H') (pre:∃ ν,μ'=μ++ν) {a:Addr} (e:H' a=H a):∀ {o:O},OR K H μ a o→OR K H' μ' a o
 | .lst xs,⟨vs,h,r⟩=>⟨vs,by rw [e]; exact h,RVs.up tk pre _ _ r⟩
 | .dk kvs,⟨ws,h,r⟩=>⟨ws,by rw [e]; exact h,r.up tk pre⟩
 | .dt kvs,⟨ws,h,r⟩=>⟨ws,by rw [e]; exact h,r.up tk pre⟩
 | .tb q,⟨ps,h,t⟩=>⟨ps,by rw [e]; exact h,t.tab,t.ok,fun pos cv z=>by
  obtain ⟨c,o,vs,t',rfl,x,y⟩:=t.code pos cv z
  exact ⟨c,o,vs,t',rfl,tk.z _ _ _ x,y⟩⟩
 | .fk kvs,⟨o,ws,h,r⟩=>⟨o,ws,by rw [e]; exact h,r.up tk pre⟩
theorem zDO {p:Addr}{o:HO} (h:H p=none):TF K H (upd H p o):=zKt (zFH h o)
theorem SR.other (sr:SR K μ S H) {p:Addr}{o:HO} (h:H p=none):SR K μ S (upd H p o)∧Step K μ μ H (upd H p o):=by
 have hp:=sr.out h
 refine ⟨⟨sr.len,sr.nd,fun n a o' e1 e2=>?_⟩,⟨⟨[],by simp,by simp⟩,fun b u hb e=>?_,zDO h⟩⟩
 ·have hm:=List.mem_of_getElem? e1
  have ne:a≠p:=fun z=>hp (z▸hm)
  exact (sr.obj n a o' e1 e2).up (zDO h) ⟨[],by simp⟩ (zA5 ne)
 ·rw [zA5 (zAm e h)]; exact e
theorem SR.push (sr:SR K μ S H) {p:Addr}{o:HO}{o':O} (h:H p=none) (ho:OR K (upd H p o) (μ++[p]) p o'):SR K (μ++[p]) (S++[o']) (upd H p o)∧Step K μ (μ++[p]) H (upd H p o):=by
 have hp:=sr.out h
 refine ⟨⟨by simp [sr.len],?_,fun n a u e1 e2=>?_⟩,⟨⟨[p],rfl,fun b hb=>?_⟩,fun b u hb e=>?_,zDO h⟩⟩
 ·rw [List.nodup_append]
  refine ⟨sr.nd,by simp,fun a ha b hb=>?_⟩
  simp at hb; subst hb
  exact fun z=>hp (z▸ha)
 ·by_cases hn:n<μ.length
  ·rw [List.getElem?_append_left hn] at e1
   rw [List.getElem?_append_left (by rw [← sr.len]; exact hn)] at e2
   have hm:=List.mem_of_getElem? e1
   have ne:a≠p:=fun z=>hp (z▸hm)
   exact (sr.obj n a u e1 e2).up (zDO h) ⟨[p],rfl⟩ (zA5 ne)
  ·rw [List.getElem?_append_right (by lia)] at e1
   rw [List.getElem?_append_right (by rw [← sr.len]; lia)] at e2
   have h1:=by
    have:=(List.getElem?_eq_some_iff.mp e1).1
    simp at this; omega
   rw [h1] at e1
   rw [← sr.len,h1] at e2
   simp at e1 e2
   subst e1 e2
   exact ho
 ·simp_all
 ·rw [zA5 (zAm e h)]; exact e
theorem SR.put (sr:SR K μ S H) {n:Nat}{p:Addr}{o u:HO}{o':O} (hn:μ[n]?=some p) (hp:H p=some u) (nt:∀ xs,u≠.tup xs) (nf:∀ x y,u≠.frz x y) (ho:OR K (upd H p o) μ p o'):SR K μ (S.set n o') (upd H p o)∧Step K μ μ H (upd H p o):=by
 have tk:TF K H (upd H p o):=zFb hp nt nf
 have hmem:=List.mem_of_getElem? hn
 refine ⟨⟨by simp [sr.len],sr.nd,fun m a w e1 e2=>?_⟩,⟨⟨[],by simp,by simp⟩,fun b w hb e=>?_,tk⟩⟩
 ·by_cases hm:m=n
  ·subst hm
   rw [hn] at e1; cases e1
   have hl:m<S.length:=by rw [← sr.len]; exact (List.getElem?_eq_some_iff.mp hn).1
   rw [List.getElem?_set_self hl] at e2
   cases e2
   exact ho
  ·rw [List.getElem?_set_ne (fun z=>hm z.symm)] at e2
   have ne:a≠p:=fun z=>by
    subst z
    exact hm ((List.getElem?_inj (List.getElem?_eq_some_iff.mp e1).1 sr.nd).mp (e1.trans hn.symm))
   exact (sr.obj m a w e1 e2).up tk ⟨[],by simp⟩ (zA5 ne)
 ·have ne:b≠p:=fun z=>hb (z▸hmem)
  rw [zA5 ne]; exact e
end
open PySem PySem.Spec PyProof.Rows
inductive R (α:Type) where
 | bad | ok (a:α) (S:zA2) | er (c:Str) (S:zA2)
noncomputable abbrev M (α:Type):=zA2→R α
noncomputable def bnd {α β:Type} (m:M α) (f:α→M β):M β:=fun S=>match m S with
 | .bad=>.bad
 | .er c S'=>.er c S'
 | .ok a S'=>f a S'
noncomputable def ret {α:Type} (a:α):M α:=fun S=>.ok a S
noncomputable def bad {α:Type}:M α:=fun _=>.bad
inductive BndOk {α β:Type} (m:M α) (f:α→M β) (S:zA2) (b:β) (S2:zA2):Prop
 | mk (a:α) (S1:zA2) (e:m S=.ok a S1) (g:f a S1=.ok b S2)
theorem zA7 {α β:Type}{m:M α}{f:α→M β}{S S2:zA2}{b:β} (h:bnd m f S=.ok b S2):BndOk m f S b S2:=by
 unfold bnd at h
 cases e:m S with
 | bad=>rw [e] at h; cases h
 | er c S'=>rw [e] at h; cases h
 | ok a S'=>rw [e] at h; exact ⟨a,S',e,h⟩
theorem zAd {α:Type}{a b:α}{S S':zA2} (h:ret a S=.ok b S'):b=a∧S'=S:=by
 unfold ret at h; cases h; exact ⟨rfl,rfl⟩
noncomputable abbrev C:=Env1→M D
noncomputable abbrev CT:=Env1→M Bool
noncomputable abbrev CA:=Env1→M (List D)
def RE (K:W.Frag) (H:Hp) (μ:List Addr) (ρ:Env1) (σ:St):Prop:=ρ.length=σ.length∧∀ (i:Nat) (d:D),ρ[i]?=some (some d)→∃ v,σ[i]?=some (some v)∧RV K H μ d v
section
variable {K:W.Frag}{H H':Hp}{μ μ':List Addr}{ρ:Env1}{σ:St}
theorem RE.up (h:RE K H μ ρ σ) (st:Step K μ μ' H H'):RE K H' μ' ρ σ:=⟨h.1,fun i d e=>let ⟨v,q,r⟩:=h.2 i d e; ⟨v,q,RV.up st.tk st.ext d v r⟩⟩
theorem RE.set (h:RE K H μ ρ σ) {d:D}{v:V} (r:RV K H μ d v) (i:Nat):RE K H μ (ρ.set i (some d)) (σ.set i (some v)):=by
 refine ⟨by simp [h.1],fun j d' e=>?_⟩
 by_cases hj:i=j
 ·subst hj
  have hl:=by
   have:=(List.getElem?_eq_some_iff.mp e).1
   simpa using this
  rw [List.getElem?_set_self hl] at e
  cases e
  exact ⟨v,by rw [List.getElem?_set_self (by rw [← h.1]; exact hl)],r⟩
 ·rw [List.getElem?_set_ne hj] at e ⊢
  exact h.2 j d' e
end
def Yld (K:W.Frag) (μ:List Addr) (H:Hp) (d:D) (S':zA2) (Q:VK):Prop:=∀ v H' μ',SR K μ' S' H'→Step K μ μ' H H'→RV K H' μ' d v→Q v H'
def YldA (K:W.Frag) (μ:List Addr) (H:Hp) (ds:List D) (S':zA2) (Q:List V→Hp→Prop):Prop:=∀ vs H' μ',SR K μ' S' H'→Step K μ μ' H H'→RVs K H' μ' ds vs→Q vs H'
def YldT (K:W.Frag) (μ:List Addr) (H:Hp) (b:Bool) (S':zA2) (Q:Bool→Hp→Prop):Prop:=∀ H' μ',SR K μ' S' H'→Step K μ μ' H H'→Q b H'
inductive tOf (K:W.Frag) (c:C) (σ:St) (H:Hp) (Q:VK):Prop
 | mk (μ:List Addr) (ρ:Env1) (S:zA2) (d:D) (S':zA2) (sr:SR K μ S H) (re:RE K H μ ρ σ) (e:c ρ S=.ok d S') (y:Yld K μ H d S' Q)
inductive tOfA (K:W.Frag) (c:CA) (σ:St) (H:Hp) (Q:List V→Hp→Prop):Prop
 | mk (μ:List Addr) (ρ:Env1) (S:zA2) (d:List D) (S':zA2) (sr:SR K μ S H) (re:RE K H μ ρ σ) (e:c ρ S=.ok d S') (y:YldA K μ H d S' Q)
inductive tOfT (K:W.Frag) (c:CT) (σ:St) (H:Hp) (Q:Bool→Hp→Prop):Prop
 | mk (μ:List Addr) (ρ:Env1) (S:zA2) (d:Bool) (S':zA2) (sr:SR K μ S H) (re:RE K H μ ρ σ) (e:c ρ S=.ok d S') (y:YldT K μ H d S' Q)
theorem Yld.self {K:W.Frag}{μ:List Addr}{H:Hp}{d:D}{S:zA2}{Q:VK} (h:Yld K μ H d S Q) (sr:SR K μ S H) {v:V} (r:RV K H μ d v):Q v H:=h v H μ sr (Step.refl K μ H) r
theorem Yld.shift {K:W.Frag}{μ μ1:List Addr}{H H1:Hp}{d:D}{S:zA2}{Q:VK} (h:Yld K μ H d S Q) (st:Step K μ μ1 H H1):Yld K μ1 H1 d S Q:=fun v H' μ' sr s2 r=>h v H' μ' sr (st.trans s2 sr.nd) r
theorem YldT.shift {K:W.Frag}{μ μ1:List Addr}{H H1:Hp}{d:Bool}{S:zA2}{Q:Bool→Hp→Prop} (h:YldT K μ H d S Q) (st:Step K μ μ1 H H1):YldT K μ1 H1 d S Q:=fun H' μ' sr s2=>h H' μ' sr (st.trans s2 sr.nd)
theorem PE.weak {X:Cx}{e:Expr}{t t':TE} (h:PE X e t) (w:∀ σ H Q,t' σ H Q→t σ H Q):PE X e t':=fun pins s σ H Q I q=>h pins s σ H Q I (w σ H Q q)
theorem PT.weak {X:Cx}{e:Expr}{t t':TT} (h:PT X e t) (w:∀ σ H Q,t' σ H Q→t σ H Q):PT X e t':=fun pins s σ H Q I q=>h pins s σ H Q I (w σ H Q q)
theorem PW.weak {X:Cx}{e:Expr}{t t':TT} (h:PW X e t) (w:∀ σ H Q,t' σ H Q→t σ H Q):PW X e t':=fun wh pins s σ H Q I q=>h wh pins s σ H Q I (w σ H Q q)
theorem PA.weak {X:Cx}{e:List Expr}{t t':TA} (h:PA X e t) (w:∀ σ H Q,t' σ H Q→t σ H Q):PA X e t':=fun pos pins s σ H Q I q=>h pos pins s σ H Q I (w σ H Q q)
theorem PS.weak {X:Cx}{e:Stmt}{t t':TS} (h:PS X e t) (w:∀ D σ H,t' D σ H→t D σ H):PS X e t':=fun pins s σ H D I q=>h pins s σ H D I (w D σ H q)
theorem PSs.weak {X:Cx}{e:List Stmt}{t t':TS} (h:PSs X e t) (w:∀ D σ H,t' D σ H→t D σ H):PSs X e t':=fun pins s σ H D I q=>h pins s σ H D I (w D σ H q)
noncomputable def rAny (X:Cx) (f:Value→Value→Sem Value):R2:=fun v u H Q=>∃ r,OpR X f r∧r v u H Q
theorem zEM {X:Cx}{f:Value→Value→Sem Value}:OpR X f (rAny X f):=fun pins s σ H x y v u Q I rx ry ⟨r,ho,q⟩=>ho pins s σ H x y v u Q I rx ry q
noncomputable def uAny (X:Cx) (f:Value→Sem Value):V→Hp→VK→Prop:=fun v H Q=>∃ r,UnR X f r∧r v H Q
theorem unAny {X:Cx}{f:Value→Sem Value}:UnR X f (uAny X f):=fun pins s σ H x v Q I rx ⟨r,ho,q⟩=>ho pins s σ H x v Q I rx q
noncomputable def cAny (X:Cx) (f:Value):List V→Hp→VK→Prop:=fun vs H Q=>∃ r,zAw X f r∧r vs H Q
theorem zEu {X:Cx}{f:Value}:zAw X f (cAny X f):=fun pins s σ H x v Q I rx ⟨r,ho,q⟩=>ho pins s σ H x v Q I rx q
noncomputable def zLA (X:Cx):R2:=fun v u H Q=>∃ r,IxR X r∧r v u H Q
theorem ixAny {X:Cx}:IxR X (zLA X):=fun va sl pins s σ H x y v u Q I rx ry ⟨r,ho,q⟩ hs=>ho va sl pins s σ H x y v u Q I rx ry q hs
noncomputable def zKE (X:Cx):V→Option Int→Option Int→Hp→VK→Prop:=fun v lo hi H Q=>∃ r,SlR X r∧r v lo hi H Q
theorem slAny {X:Cx}:SlR X (zKE X):=fun pins s σ H x v vl vu lo hi sl Q I rx a b c ⟨r,ho,q⟩=>ho pins s σ H x v vl vu lo hi sl Q I rx a b c q
noncomputable def zBF (X:Cx) (id:String):V→List V→Hp→VK→Prop:=fun v vs H Q=>∃ r,MtR X id r∧r v vs H Q
theorem mtAny {X:Cx}{id:String}:MtR X id (zBF X id):=fun pins s σ H x xs v us Q I rx rs ⟨r,ho,q⟩=>ho pins s σ H x xs v us Q I rx rs q
noncomputable def zKH (X:Cx):TSet:=fun o i v H Q=>∃ r,PSet X r∧r o i v H Q
theorem setAny {X:Cx}:PSet X (zKH X):=fun pins s σ H o i v ov iv u Q I r1 r2 r3 ⟨r,ho,q⟩=>ho pins s σ H o i v ov iv u Q I r1 r2 r3 q
noncomputable def cVar (i:Nat):C:=fun ρ S=>match ρ[i]? with
 | some (some d)=>.ok d S
 | _=>.bad
noncomputable def cCon (d:D):C:=fun _ S=>.ok d S
noncomputable def cBin (o:D→D→M D) (a b:C):C:=fun ρ=>bnd (a ρ) fun x=>bnd (b ρ) fun y=>o x y
noncomputable def cUn (o:D→M D) (a:C):C:=fun ρ=>bnd (a ρ) o
noncomputable def zA0:List C→CA
 | []=>fun _=>ret []
 | c::cs=>fun ρ=>bnd (c ρ) fun x=>bnd (zA0 cs ρ) fun xs=>ret (x::xs)
noncomputable def cApp (o:List D→M D) (a:CA):C:=fun ρ=>bnd (a ρ) o
noncomputable def cTup (a:CA):C:=cApp (fun xs=>ret (.tup xs)) a
noncomputable def cLst (a:CA):C:=cApp (fun xs S=>.ok (.lst S.length) (S++[.lst xs])) a
noncomputable def cIf (t:CT) (a b:C):C:=fun ρ=>bnd (t ρ) fun k=>if k then a ρ else b ρ
noncomputable def zAa (a:C):CT:=fun ρ=>bnd (a ρ) fun x=>match x with
 | .bl b=>ret b
 | _=>bad
noncomputable def zDg (a b:C):C:=fun ρ=>bnd (zAa a ρ) fun k=>if k then b ρ else ret (.bl false)
noncomputable def cOrV (a b:C):C:=fun ρ=>bnd (zAa a ρ) fun k=>if k then ret (.bl true) else b ρ
noncomputable def zOT (a:C):C:=fun ρ=>bnd (zAa a ρ) fun k=>ret (.bl (!k))
noncomputable def zK6 (a b:CT):CT:=fun ρ=>bnd (a ρ) fun k=>if k then b ρ else ret false
noncomputable def cOrT (a b:CT):CT:=fun ρ=>bnd (a ρ) fun k=>if k then ret true else b ρ
noncomputable def zB3 (a:CT):CT:=fun ρ=>bnd (a ρ) fun k=>ret (!k)
noncomputable def dB (x:D):M Bool:=match x with
 | .bl b=>ret b
 | _=>bad
noncomputable def zBJ (o o':D→D→M D) (a b c:C):C:=fun ρ=>bnd (a ρ) fun x=>bnd (b ρ) fun y=>bnd (o x y) fun z=>bnd (dB z) fun k=>if k then bnd (c ρ) fun w=>o' y w else ret (.bl false)
noncomputable def zIs (o o' o2:D→D→M D) (a b c d:C):CT:=fun ρ=>bnd (a ρ) fun x=>bnd (b ρ) fun y=>bnd (o x y) fun z=>bnd (dB z) fun k =>
 if k then bnd (c ρ) fun w=>bnd (o' y w) fun z2=>bnd (dB z2) fun k2=>if k2 then bnd (d ρ) fun w2=>bnd (o2 w w2) dB else ret false else ret false
section
variable {X:Cx}{a b c d:Expr}{ca cb cc cd:C}{pos:Pos}
theorem se_var {i:Nat}{x:Str} (h:PE X (.Name x pos) (tVar i)):PE X (.Name x pos) (tOf X.K (cVar i)):=h.weak fun σ H Q ⟨μ,ρ,S,d,S',sr,re,e,y⟩=>by
 unfold cVar at e
 split at e
 ·rename_i d' hd
  cases e
  obtain ⟨v,q,r⟩:=re.2 i _ hd
  exact ⟨v,q,y.self sr r⟩
 ·cases e
theorem zFi {e:Expr}{v:V}{d:D} (h:PE X e (tC v)) (hd:∀ K H μ,RV K H μ d v):PE X e (tOf X.K (cCon d)):=h.weak fun σ H Q ⟨μ,ρ,S,d',S',sr,re,e,y⟩=>by
 unfold cCon at e
 cases e
 exact y.self sr (hd _ _ _)
def OpS (K:W.Frag) (r:R2) (o:D→D→M D):Prop:=∀ x y S d S' H μ v u Q,o x y S=.ok d S'→SR K μ S H→RV K H μ x v→RV K H μ y u→Yld K μ H d S' Q→r v u H Q
theorem zIZ {r:R2}{o:D→D→M D} (ho:OpS X.K r o):∀ σ H Q,tOf X.K (cBin o ca cb) σ H Q→tOp r (tOf X.K ca) (tOf X.K cb) σ H Q:=by
 rintro σ H Q ⟨μ,ρ,S,d,S',sr,re,e,y⟩
 obtain ⟨x,S1,e1,e⟩:=zA7 e
 obtain ⟨z,S2,e2,e⟩:=zA7 e
 refine ⟨μ,ρ,S,x,S1,sr,re,e1,fun v H1 μ1 sr1 st1 r1=>⟨μ1,ρ,S1,z,S2,sr1,re.up st1,e2,fun u H2 μ2 sr2 st2 r2=>?_⟩⟩
 exact ho x z S2 d S' H2 μ2 v u Q e sr2 (RV.up st2.tk st2.ext _ _ r1) r2 (y.shift (st1.trans st2 sr2.nd))
theorem se_bin {op:Operator}{o:D→D→M D} (ho:OpS X.K (rAny X (binaryOp op)) o) (ha:PE X a (tOf X.K ca)) (hb:PE X b (tOf X.K cb)):PE X (.BinOp a op b pos) (tOf X.K (cBin o ca cb)):=(pe_op zEM ha hb).weak (zIZ ho)
theorem se_cmp {op:CmpOp}{o:D→D→M D} (ho:OpS X.K (rAny X (compareOp op)) o) (ha:PE X a (tOf X.K ca)) (hb:PE X b (tOf X.K cb)) (hm:behindInMarks op b=false):PE X (.Compare a [op] [b] pos) (tOf X.K (cBin o ca cb)):=(zQD zEM ha hb hm).weak (zIZ ho)
theorem zLd {t:TE}{c:C} (h:∀ σ H Q,tOf X.K c σ H Q→t σ H Q):∀ σ H Q,tOfT X.K (zAa c) σ H Q→zPH t σ H Q:=by
 rintro σ H Q ⟨μ,ρ,S,d,S',sr,re,e,y⟩
 obtain ⟨x,S1,e1,e⟩:=zA7 e
 refine h σ H _ ⟨μ,ρ,S,x,S1,sr,re,e1,fun v H1 μ1 sr1 st1 r1=>?_⟩
 cases x with
 | bl k =>
  obtain ⟨rfl,rfl⟩:=zAd e
  exact ⟨_,r1,y H1 μ1 sr1 st1⟩
 | _=>cases e
theorem st_cmp {op:CmpOp}{o:D→D→M D} (ho:OpS X.K (rAny X (compareOp op)) o) (ha:PE X a (tOf X.K ca)) (hb:PE X b (tOf X.K cb)) (hm:behindInMarks op b=false):PT X (.Compare a [op] [b] pos) (tOfT X.K (zAa (cBin o ca cb))):=(zQo zEM ha hb hm).weak (zLd (zIZ ho))
theorem zIY {r r':R2}{o o':D→D→M D} (ho:OpS X.K r o) (ho':OpS X.K r' o'):∀ σ H Q,tOf X.K (zBJ o o' ca cb cc) σ H Q→zKy r r' (tOf X.K ca) (tOf X.K cb) (tOf X.K cc) σ H Q:=by
 rintro σ H Q ⟨μ,ρ,S,d,S',sr,re,e,y⟩
 obtain ⟨x,S1,e1,f1⟩:=zA7 e
 obtain ⟨z,S2,e2,f2⟩:=zA7 f1
 obtain ⟨t,S3,e3,f3⟩:=zA7 f2
 obtain ⟨k,S4,e4,f4⟩:=zA7 f3
 refine ⟨μ,ρ,S,x,S1,sr,re,e1,fun v H1 μ1 sr1 st1 r1=>⟨μ1,ρ,S1,z,S2,sr1,re.up st1,e2,fun u H2 μ2 sr2 st2 r2=>?_⟩⟩
 have st12:=st1.trans st2 sr2.nd
 refine ho x z S2 t S3 H2 μ2 v u _ e3 sr2 (RV.up st2.tk st2.ext _ _ r1) r2 fun v3 H3 μ3 sr3 st3 r3=>?_
 have st13:=st12.trans st3 sr3.nd
 cases t with
 | bl k' =>
  obtain ⟨rfl,rfl⟩:=zAd e4
  refine ⟨_,r3,?_⟩
  cases k with
  | true =>
   obtain ⟨w,S5,e5,f5⟩:=zA7 f4
   refine ⟨μ3,ρ,_,w,S5,sr3,re.up st13,e5,fun v5 H5 μ5 sr5 st5 r5=>?_⟩
   exact ho' z w S5 d S' H5 μ5 u v5 Q f5 sr5 (RV.up st5.tk st5.ext _ _ (RV.up st3.tk st3.ext _ _ r2)) r5 (y.shift (st13.trans st5 sr5.nd))
  | false =>
   obtain ⟨rfl,rfl⟩:=zAd f4
   exact y _ H3 μ3 sr3 st13 (by rfl)
 | _=>cases e4
theorem zNp {op op':CmpOp}{o o':D→D→M D} (ho:OpS X.K (rAny X (compareOp op)) o) (ho':OpS X.K (rAny X (compareOp op')) o') (ha:PE X a (tOf X.K ca)) (hb:PE X b (tOf X.K cb)) (hc:PE X c (tOf X.K cc)) (hm:lastMarks [op,op'] [b,c]=false) :
  PE X (.Compare a [op,op'] [b,c] pos) (tOf X.K (zBJ o o' ca cb cc)):=(zNL zEM zEM ha hb hc hm).weak (zIY ho ho')
theorem zNd {op op':CmpOp}{o o':D→D→M D} (ho:OpS X.K (rAny X (compareOp op)) o) (ho':OpS X.K (rAny X (compareOp op')) o') (ha:PE X a (tOf X.K ca)) (hb:PE X b (tOf X.K cb)) (hc:PE X c (tOf X.K cc)) (hm:lastMarks [op,op'] [b,c]=false) :
  PT X (.Compare a [op,op'] [b,c] pos) (tOfT X.K (zAa (zBJ o o' ca cb cc))):=(zNy zEM zEM ha hb hc hm).weak (zLd (zIY ho ho'))
theorem zKC {op op' op2:CmpOp}{o o' o2:D→D→M D} (ho:OpS X.K (rAny X (compareOp op)) o) (ho':OpS X.K (rAny X (compareOp op')) o') (ho2:OpS X.K (rAny X (compareOp op2)) o2) (ha:PE X a (tOf X.K ca)) (hb:PE X b (tOf X.K cb)) (hc:PE X c (tOf X.K cc)) (hd:PE X d (tOf X.K cd))
  (hm:lastMarks [op,op',op2] [b,c,d]=false):PT X (.Compare a [op,op',op2] [b,c,d] pos) (tOfT X.K (zIs o o' o2 ca cb cc cd)):=by
 refine (zKU zEM zEM zEM ha hb hc hd hm).weak ?_
 rintro σ H Q ⟨μ,ρ,S,d,S',sr,re,e,y⟩
 obtain ⟨x,S1,e1,f1⟩:=zA7 e
 obtain ⟨z,S2,e2,f2⟩:=zA7 f1
 obtain ⟨t,S3,e3,f3⟩:=zA7 f2
 obtain ⟨k,S4,e4,f4⟩:=zA7 f3
 refine ⟨μ,ρ,S,x,S1,sr,re,e1,fun v H1 μ1 sr1 st1 r1=>⟨μ1,ρ,S1,z,S2,sr1,re.up st1,e2,fun u H2 μ2 sr2 st2 r2=>?_⟩⟩
 have st12:=st1.trans st2 sr2.nd
 refine ho x z S2 t S3 H2 μ2 v u _ e3 sr2 (RV.up st2.tk st2.ext _ _ r1) r2 fun v3 H3 μ3 sr3 st3 r3=>?_
 have st13:=st12.trans st3 sr3.nd
 cases t with
 | bl k' =>
  obtain ⟨rfl,rfl⟩:=zAd e4
  refine ⟨_,r3,?_⟩
  cases k with
  | true =>
   obtain ⟨w,S5,e5,f5⟩:=zA7 f4
   obtain ⟨t2,S6,e6,f6⟩:=zA7 f5
   obtain ⟨k2,S7,e7,f7⟩:=zA7 f6
   refine ⟨μ3,ρ,_,w,S5,sr3,re.up st13,e5,fun v5 H5 μ5 sr5 st5 r5=>?_⟩
   have st15:=st13.trans st5 sr5.nd
   refine ho' z w S5 t2 S6 H5 μ5 u v5 _ e6 sr5 (RV.up st5.tk st5.ext _ _ (RV.up st3.tk st3.ext _ _ r2)) r5 fun v6 H6 μ6 sr6 st6 r6=>?_
   have st16:=st15.trans st6 sr6.nd
   cases t2 with
   | bl k3 =>
    obtain ⟨rfl,rfl⟩:=zAd e7
    refine ⟨_,r6,?_⟩
    cases k2 with
    | true =>
     obtain ⟨w2,S8,e8,f8⟩:=zA7 f7
     obtain ⟨t3,S9,e9,f9⟩:=zA7 f8
     refine ⟨μ6,ρ,_,w2,S8,sr6,re.up st16,e8,fun v8 H8 μ8 sr8 st8 r8=>?_⟩
     have st18:=st16.trans st8 sr8.nd
     refine ho2 w w2 S8 t3 S9 H8 μ8 v5 v8 _ e9 sr8 (RV.up st8.tk st8.ext _ _ (RV.up st6.tk st6.ext _ _ r5)) r8 fun v9 H9 μ9 sr9 st9 r9=>?_
     cases t3 with
     | bl k4 =>
      obtain ⟨rfl,rfl⟩:=zAd f9
      exact ⟨_,r9,y H9 μ9 sr9 (st18.trans st9 sr9.nd)⟩
     | _=>cases f9
    | false =>
     rw [if_neg Bool.false_ne_true] at f7 ⊢
     obtain ⟨rfl,rfl⟩:=zAd f7
     exact y H6 μ6 sr6 st16
   | _=>cases e7
  | false =>
   rw [if_neg Bool.false_ne_true] at f4 ⊢
   obtain ⟨rfl,rfl⟩:=zAd f4
   exact y H3 μ3 sr3 st13
 | _=>cases e4
def UnS (K:W.Frag) (r:V→Hp→VK→Prop) (o:D→M D):Prop:=∀ x S d S' H μ v Q,o x S=.ok d S'→SR K μ S H→RV K H μ x v→Yld K μ H d S' Q→r v H Q
theorem se_un {op:UnaryOp}{o:D→M D} (ho:UnS X.K (uAny X (unaryOp op)) o) (ha:PE X a (tOf X.K ca)):PE X (.UnaryOp op a pos) (tOf X.K (cUn o ca)):=(pe_un unAny ha).weak (by
 rintro σ H Q ⟨μ,ρ,S,d,S',sr,re,e,y⟩
 obtain ⟨x,S1,e1,e⟩:=zA7 e
 exact ⟨μ,ρ,S,x,S1,sr,re,e1,fun v H1 μ1 sr1 st1 r1=>ho x S1 d S' H1 μ1 v Q e sr1 r1 (y.shift st1)⟩)
theorem zHS {σ:St}{H:Hp}{μ:List Addr}{ρ:Env1}{S S':zA2}{k:Bool} (sr:SR X.K μ S H) (re:RE X.K H μ ρ σ) (e:zAa ca ρ S=.ok k S') {Q:VK} (h:∀ H1 μ1,SR X.K μ1 S' H1→Step X.K μ μ1 H H1→Q (.bl k) H1):tOf X.K ca σ H Q:=by
 obtain ⟨x,S1,e1,e⟩:=zA7 e
 refine ⟨μ,ρ,S,x,S1,sr,re,e1,fun v H1 μ1 sr1 st1 r1=>?_⟩
 cases x with
 | bl k' =>
  obtain ⟨rfl,rfl⟩:=zAd e
  subst r1
  exact h H1 μ1 sr1 st1
 | _=>cases e
theorem se_and {rest:List Expr} (ha:PE X a (tOf X.K ca)) (hb:PE X (.BoolOp .And (b::rest) pos) (tOf X.K cb)):PE X (.BoolOp .And (a::b::rest) pos) (tOf X.K (zDg ca cb)):=(pe_and ha hb).weak (by
 rintro σ H Q ⟨μ,ρ,S,d,S',sr,re,e,y⟩
 obtain ⟨k,S1,e1,e⟩:=zA7 e
 refine zHS sr re e1 fun H1 μ1 sr1 st1=>⟨k,rfl,?_⟩
 cases k with
 | true=>rw [if_pos rfl] at e ⊢; exact ⟨μ1,ρ,S1,d,S',sr1,re.up st1,e,y.shift st1⟩
 | false=>rw [if_neg Bool.false_ne_true] at e ⊢; obtain ⟨rfl,rfl⟩:=zAd e; exact y _ H1 μ1 sr1 st1 (by rfl))
theorem se_or {rest:List Expr} (ha:PE X a (tOf X.K ca)) (hb:PE X (.BoolOp .Or (b::rest) pos) (tOf X.K cb)):PE X (.BoolOp .Or (a::b::rest) pos) (tOf X.K (cOrV ca cb)):=(pe_or ha hb).weak (by
 rintro σ H Q ⟨μ,ρ,S,d,S',sr,re,e,y⟩
 obtain ⟨k,S1,e1,e⟩:=zA7 e
 refine zHS sr re e1 fun H1 μ1 sr1 st1=>⟨k,rfl,?_⟩
 cases k with
 | false=>rw [if_neg Bool.false_ne_true] at e ⊢; exact ⟨μ1,ρ,S1,d,S',sr1,re.up st1,e,y.shift st1⟩
 | true=>rw [if_pos rfl] at e ⊢; obtain ⟨rfl,rfl⟩:=zAd e; exact y _ H1 μ1 sr1 st1 (by rfl))
theorem se_not (ha:PE X a (tOf X.K ca)):PE X (.UnaryOp .Not a pos) (tOf X.K (zOT ca)):=(pe_not ha).weak (by
 rintro σ H Q ⟨μ,ρ,S,d,S',sr,re,e,y⟩
 obtain ⟨k,S1,e1,e⟩:=zA7 e
 obtain ⟨rfl,rfl⟩:=zAd e
 exact zHS sr re e1 fun H1 μ1 sr1 st1=>⟨k,rfl,y _ H1 μ1 sr1 st1 (by rfl)⟩)
theorem zNn {t:Expr}{ct:CT} (ht:PT X t (tOfT X.K ct)) (ha:PE X a (tOf X.K ca)) (hb:PE X b (tOf X.K cb)):PE X (.IfExp t a b pos) (tOf X.K (cIf ct ca cb)):=(zIU ht ha hb).weak (by
 rintro σ H Q ⟨μ,ρ,S,d,S',sr,re,e,y⟩
 obtain ⟨k,S1,e1,e⟩:=zA7 e
 refine ⟨μ,ρ,S,k,S1,sr,re,e1,fun H1 μ1 sr1 st1=>?_⟩
 cases k with
 | true=>rw [if_pos rfl] at e ⊢; exact ⟨μ1,ρ,S1,d,S',sr1,re.up st1,e,y.shift st1⟩
 | false=>rw [if_neg Bool.false_ne_true] at e ⊢; exact ⟨μ1,ρ,S1,d,S',sr1,re.up st1,e,y.shift st1⟩)
variable {ta tb:CT}
theorem sw_and {rest:List Expr} (ha:PT X a (tOfT X.K ta)) (hb:PW X (.BoolOp .And (b::rest) pos) (tOfT X.K tb)):PW X (.BoolOp .And (a::b::rest) pos) (tOfT X.K (zK6 ta tb)):=(pw_and ha hb).weak (by
 rintro σ H Q ⟨μ,ρ,S,d,S',sr,re,e,y⟩
 obtain ⟨k,S1,e1,e⟩:=zA7 e
 refine ⟨μ,ρ,S,k,S1,sr,re,e1,fun H1 μ1 sr1 st1=>?_⟩
 cases k with
 | true=>rw [if_pos rfl] at e ⊢; exact ⟨μ1,ρ,S1,d,S',sr1,re.up st1,e,y.shift st1⟩
 | false=>rw [if_neg Bool.false_ne_true] at e ⊢; obtain ⟨rfl,rfl⟩:=zAd e; exact y H1 μ1 sr1 st1)
theorem sw_or {rest:List Expr} (ha:PT X a (tOfT X.K ta)) (hb:PW X (.BoolOp .Or (b::rest) pos) (tOfT X.K tb)):PW X (.BoolOp .Or (a::b::rest) pos) (tOfT X.K (cOrT ta tb)):=(pw_or ha hb).weak (by
 rintro σ H Q ⟨μ,ρ,S,d,S',sr,re,e,y⟩
 obtain ⟨k,S1,e1,e⟩:=zA7 e
 refine ⟨μ,ρ,S,k,S1,sr,re,e1,fun H1 μ1 sr1 st1=>?_⟩
 cases k with
 | false=>rw [if_neg Bool.false_ne_true] at e ⊢; exact ⟨μ1,ρ,S1,d,S',sr1,re.up st1,e,y.shift st1⟩
 | true=>rw [if_pos rfl] at e ⊢; obtain ⟨rfl,rfl⟩:=zAd e; exact y H1 μ1 sr1 st1)
theorem st_not (ha:PT X a (tOfT X.K ta)):PT X (.UnaryOp .Not a pos) (tOfT X.K (zB3 ta)):=(pt_not ha).weak (by
 rintro σ H Q ⟨μ,ρ,S,d,S',sr,re,e,y⟩
 obtain ⟨k,S1,e1,e⟩:=zA7 e
 obtain ⟨rfl,rfl⟩:=zAd e
 exact ⟨μ,ρ,S,k,_,sr,re,e1,fun H1 μ1 sr1 st1=>y H1 μ1 sr1 st1⟩)
noncomputable def dTru (x:D):M Bool:=fun S=>match x with
 | .non=>.ok false S
 | .bl b=>.ok b S
 | .int i=>.ok (i != 0) S
 | .str y=>if y.length≤sizeLine then .ok ((y.length:Int) != 0) S else .bad
 | .tup xs=>.ok (!xs.isEmpty) S
 | .lst n=>match S[n]? with
  | some (.lst xs)=>.ok (!xs.isEmpty) S
  | _=>.bad
 | .dct n=>match S[n]? with
  | some (.dk kvs)=>.ok (!kvs.isEmpty) S
  | _=>.bad
 | .ty _=>.bad
 | .rol xs=>.ok (!xs.isEmpty) S
 | .xc _=>.bad
 | .ob _=>.bad
 | .ktp _=>.bad
noncomputable def cTru (a:C):CT:=fun ρ=>bnd (a ρ) dTru
theorem zJg {K:W.Frag}{H:Hp}{μ:List Addr}{ds:List D}{vs:List V} (h:RVs K H μ ds vs):ds.isEmpty=vs.isEmpty:=by
 cases ds with
 | nil=>unfold RVs at h; subst h; rfl
 | cons d ds=>unfold RVs at h; obtain ⟨v,ws,rfl,_⟩:=h; rfl
theorem SR.get {K:W.Frag}{H:Hp}{μ:List Addr}{S:zA2} (sr:SR K μ S H) {n:Nat}{a:Addr}{o:O} (h:μ[n]?=some a) (ho:S[n]?=some o):OR K H μ a o:=sr.obj n a o h ho
theorem dTru_ok {K:W.Frag}{H:Hp}{μ:List Addr}{S S':zA2}{x:D}{v:V}{k:Bool} (e:dTru x S=.ok k S') (sr:SR K μ S H) (r:RV K H μ x v):S'=S∧TruV K v H k:=by
 unfold dTru at e
 cases x with
 | non=>cases e; subst r; exact ⟨rfl,rfl⟩
 | bl b=>cases e; subst r; exact ⟨rfl,rfl⟩
 | int i=>cases e; subst r; exact ⟨rfl,rfl⟩
 | str y =>
  subst r
  dsimp only at e
  split at e
  ·rename_i hl; cases e; exact ⟨rfl,hl,rfl⟩
  ·cases e
 | tup xs =>
  cases e; obtain ⟨p,vs,rfl,q,rr⟩:=r
  exact ⟨rfl,.inr (.inl ⟨vs,SqT.of q,by rw [zJg rr]⟩)⟩
 | lst n =>
  obtain ⟨a,rfl,hm⟩:=r
  dsimp only at e
  split at e
  ·rename_i xs ho
   cases e
   obtain ⟨vs,hq,rr⟩:=sr.get hm ho
   exact ⟨rfl,.inl ⟨vs,SqL.of hq,by rw [zJg rr]⟩⟩
  ·cases e
 | dct n =>
  obtain ⟨a,rfl,hm⟩:=r
  dsimp only at e
  split at e
  ·rename_i kvs ho
   cases e
   obtain ⟨ws,hq,rr⟩:=sr.get hm ho
   refine ⟨rfl,.inr (.inr ⟨ws,hq,?_⟩)⟩
   have:=zJg rr.2
   rw [List.isEmpty_map,List.isEmpty_map] at this
   rw [this]
  ·cases e
 | ty _=>cases e
 | rol xs =>
  cases e; obtain ⟨p,vs,rfl,q,rr⟩:=r
  exact ⟨rfl,.inl ⟨vs,q.sq,by rw [zJg rr]⟩⟩
 | xc _=>cases e
 | ob _=>cases e
 | ktp _=>cases e
theorem st_tru (ha:PE X a (tOf X.K ca)) (he:∀ whole,isTrue a X.env whole=(do let v ← whole; standAt a.pos; holding [v] (truthy v))):PT X a (tOfT X.K (cTru ca)):=(zNx ha he).weak (by
 rintro σ H Q ⟨μ,ρ,S,d,S',sr,re,e,y⟩
 obtain ⟨x,S1,e1,e⟩:=zA7 e
 refine ⟨μ,ρ,S,x,S1,sr,re,e1,fun v H1 μ1 sr1 st1 r1=>?_⟩
 obtain ⟨rfl,tv⟩:=dTru_ok e sr1 r1
 exact ⟨d,tv,y H1 μ1 sr1 st1⟩)
variable {es:List Expr}{cs:List C}
theorem zFj:PA X [] (tOfA X.K (zA0 [])):=zFo.weak (by
 rintro σ H Q ⟨μ,ρ,S,d,S',sr,re,e,y⟩
 obtain ⟨rfl,rfl⟩:=zAd e
 exact y [] H μ sr (Step.refl _ _ _) RVs.nil)
theorem zCu (ha:PE X a (tOf X.K ca)) (hr:PA X es (tOfA X.K (zA0 cs))) (hs:starEach (a::es) X.env=(false,eval a X.env)::starEach es X.env):PA X (a::es) (tOfA X.K (zA0 (ca::cs))):=(zC7 ha hr hs).weak (by
 rintro σ H Q ⟨μ,ρ,S,d,S',sr,re,e,y⟩
 obtain ⟨x,S1,e1,e⟩:=zA7 e
 obtain ⟨xs,S2,e2,e⟩:=zA7 e
 obtain ⟨rfl,rfl⟩:=zAd e
 exact ⟨μ,ρ,S,x,S1,sr,re,e1,fun v H1 μ1 sr1 st1 r1=>⟨μ1,ρ,S1,xs,S',sr1,re.up st1,e2,fun vs H2 μ2 sr2 st2 r2=>y (v::vs) H2 μ2 sr2 (st1.trans st2 sr2.nd) (.cons (RV.up st2.tk st2.ext _ _ r1) r2)⟩⟩)
theorem zEv {ρ:Env1}:∀ {cs:List C}{S S':zA2}{xs:List D},zA0 cs ρ S=.ok xs S'→xs.length=cs.length
 | [],S,S',xs,e=>by obtain ⟨rfl,rfl⟩:=zAd e; rfl
 | c::cs,S,S',xs,e=>by
  obtain ⟨x,S1,e1,e⟩:=zA7 e
  obtain ⟨ys,S2,e2,e⟩:=zA7 e
  obtain ⟨rfl,rfl⟩:=zAd e
  rw [List.length_cons,List.length_cons,zEv e2]
theorem zFP {K:W.Frag}{H:Hp}{μ:List Addr}{S:zA2}{ds:List D}{vs:List V}{p:Addr} (sr:SR K μ S H) (h:H p=none) (r:RVs K H μ ds vs):SR K μ S (upd H p (.tup vs))∧Step K μ μ H (upd H p (.tup vs))∧RV K (upd H p (.tup vs)) μ (.tup ds) (.ref p):=by
 obtain ⟨s1,s2⟩:=sr.other h
 exact ⟨s1,s2,by exact ⟨p,vs,rfl,zA4,RVs.up s2.tk s2.ext _ _ r⟩⟩
theorem new_lst {K:W.Frag}{H:Hp}{μ:List Addr}{S:zA2}{ds:List D}{vs:List V}{p:Addr} (sr:SR K μ S H) (h:H p=none) (r:RVs K H μ ds vs):SR K (μ++[p]) (S++[.lst ds]) (upd H p (.lst vs))∧Step K μ (μ++[p]) H (upd H p (.lst vs))∧RV K (upd H p (.lst vs)) (μ++[p]) (.lst S.length) (.ref p):=by
 obtain ⟨s1,s2⟩:=sr.push (o':=.lst ds) h ⟨vs,zA4,RVs.up (zDO h) ⟨[p],rfl⟩ _ _ r⟩
 exact ⟨s1,s2,by exact ⟨p,rfl,by rw [← sr.len,List.getElem?_append_right (Nat.le_refl _),Nat.sub_self]; rfl⟩⟩
theorem Yld.newL {K:W.Frag}{H:Hp}{μ:List Addr}{S:zA2}{ds:List D}{vs:List V}{p:Addr}{Q:VK} (y:Yld K μ H (.lst S.length) (S++[.lst ds]) Q) (sr:SR K μ S H) (h:H p=none) (r:RVs K H μ ds vs):Q (.ref p) (upd H p (.lst vs)):=by
 obtain ⟨s1,s2,s3⟩:=new_lst sr h r
 exact y _ _ _ s1 s2 s3
theorem Yld.newT {K:W.Frag}{H:Hp}{μ:List Addr}{S:zA2}{ds:List D}{vs:List V}{p:Addr}{Q:VK} (y:Yld K μ H (.tup ds) S Q) (sr:SR K μ S H) (h:H p=none) (r:RVs K H μ ds vs):Q (.ref p) (upd H p (.tup vs)):=by
 obtain ⟨s1,s2,s3⟩:=zFP sr h r
 exact y _ _ _ s1 s2 s3
theorem se_tup {x1} (h:PA X es (tOfA X.K (zA0 cs))) (hl:cs.length≤1000):PE X (.Tuple es x1 pos) (tOf X.K (cTup (zA0 cs))):=(zPh h).weak (by
 rintro σ H Q ⟨μ,ρ,S,d,S',sr,re,e,y⟩
 obtain ⟨xs,S1,e1,e⟩:=zA7 e
 obtain ⟨rfl,rfl⟩:=zAd e
 refine ⟨μ,ρ,S,xs,S',sr,re,e1,fun vs H1 μ1 sr1 st1 r1=>⟨?_,fun p hp=>(y.shift st1).newT sr1 hp r1⟩⟩
 have h1:=zEv e1
 have h2:=r1.len
 exact Nat.le_of_lt (zDP (by lia)))
theorem se_lst (h:PA X es (tOfA X.K (zA0 cs))) (hl:cs.length≤1000):PE X (.List es pos) (tOf X.K (cLst (zA0 cs))):=(pe_lst h).weak (by
 rintro σ H Q ⟨μ,ρ,S,d,S',sr,re,e,y⟩
 obtain ⟨xs,S1,e1,e⟩:=zA7 e
 cases e
 refine ⟨μ,ρ,S,xs,S1,sr,re,e1,fun vs H1 μ1 sr1 st1 r1=>⟨?_,fun p hp=>(y.shift st1).newL sr1 hp r1⟩⟩
 have h1:=zEv e1
 have h2:=r1.len
 exact Nat.le_of_lt (zDP (by lia)))
theorem se_ix {o:D→D→M D} (ho:OpS X.K (zLA X) o) (ha:PE X a (tOf X.K ca)) (hb:PE X b (tOf X.K cb)) (hs:zIE b):PE X (.Subscript a b pos) (tOf X.K (cBin o ca cb)):=(pe_ix ixAny ha hb hs).weak (zIZ ho)
noncomputable def CO:=Env1→M (Option Int)
noncomputable def zAs:CO:=fun _=>ret none
noncomputable def dInt (x:D):M Int:=match x with
 | .int i=>ret i
 | _=>bad
noncomputable def zBp (a:C):CO:=fun ρ=>bnd (a ρ) fun x=>bnd (dInt x) fun i=>ret (some i)
def YldO (K:W.Frag) (μ:List Addr) (H:Hp) (b:Option Int) (S':zA2) (Q:Option Int→Hp→Prop):Prop:=∀ H' μ',SR K μ' S' H'→Step K μ μ' H H'→Q b H'
inductive tOfO (K:W.Frag) (c:CO) (σ:St) (H:Hp) (Q:Option Int→Hp→Prop):Prop
 | mk (μ:List Addr) (ρ:Env1) (S:zA2) (d:Option Int) (S':zA2) (sr:SR K μ S H) (re:RE K H μ ρ σ) (e:c ρ S=.ok d S') (y:YldO K μ H d S' Q)
theorem PO.weak {e:Option Expr}{t t':TO} (h:PO X e t) (w:∀ σ H Q,t' σ H Q→t σ H Q):PO X e t':=fun pins s σ H Q I q=>h pins s σ H Q I (w σ H Q q)
theorem zPS:PO X none (tOfO X.K zAs):=zQw.weak (by
 rintro σ H Q ⟨μ,ρ,S,d,S',sr,re,e,y⟩
 obtain ⟨rfl,rfl⟩:=zAd e
 exact y H μ sr (Step.refl _ _ _))
theorem zPR (ha:PE X a (tOf X.K ca)):PO X (some a) (tOfO X.K (zBp ca)):=(zQv ha).weak (by
 rintro σ H Q ⟨μ,ρ,S,d,S',sr,re,e,y⟩
 obtain ⟨x,S1,e1,e⟩:=zA7 e
 obtain ⟨i,S2,e2,e⟩:=zA7 e
 obtain ⟨rfl,rfl⟩:=zAd e
 refine ⟨μ,ρ,S,x,S1,sr,re,e1,fun v H1 μ1 sr1 st1 r1=>?_⟩
 cases x with
 | int j =>
  obtain ⟨rfl,rfl⟩:=zAd e2
  exact ⟨_,r1,y H1 μ1 sr1 st1⟩
 | _=>cases e2)
noncomputable def cSl (o:D→Option Int→Option Int→M D) (a:C) (lo hi:CO):C:=fun ρ=>bnd (a ρ) fun x=>bnd (lo ρ) fun l=>bnd (hi ρ) fun h=>o x l h
def SlS (K:W.Frag) (r:V→Option Int→Option Int→Hp→VK→Prop) (o:D→Option Int→Option Int→M D):Prop:=∀ x l h S d S' H μ v Q,o x l h S=.ok d S'→SR K μ S H→RV K H μ x v→Yld K μ H d S' Q→r v l h H Q
theorem zNk {lo hi:Option Expr}{cl ch:CO}{p2:Pos}{o:D→Option Int→Option Int→M D} (ho:SlS X.K (zKE X) o) (ha:PE X a (tOf X.K ca)) (hl:PO X lo (tOfO X.K cl)) (hh:PO X hi (tOfO X.K ch)):PE X (.Subscript a (.Slice lo hi none p2) pos) (tOf X.K (cSl o ca cl ch)):=(zNH slAny ha hl hh).weak (by
 rintro σ H Q ⟨μ,ρ,S,d,S',sr,re,e,y⟩
 obtain ⟨x,S1,e1,e⟩:=zA7 e
 obtain ⟨l,S2,e2,e⟩:=zA7 e
 obtain ⟨h,S3,e3,e⟩:=zA7 e
 refine ⟨μ,ρ,S,x,S1,sr,re,e1,fun v H1 μ1 sr1 st1 r1=>⟨μ1,ρ,S1,l,S2,sr1,re.up st1,e2,fun H2 μ2 sr2 st2=>?_⟩⟩
 have st12:=st1.trans st2 sr2.nd
 refine ⟨μ2,ρ,S2,h,S3,sr2,re.up st12,e3,fun H3 μ3 sr3 st3=>?_⟩
 exact ho x l h S3 d S' H3 μ3 v Q e sr3 (RV.up st3.tk st3.ext _ _ (RV.up st2.tk st2.ext _ _ r1)) (y.shift (st12.trans st3 sr3.nd)))
def zBX (K:W.Frag) (r:List V→Hp→VK→Prop) (o:List D→M D):Prop:=∀ xs S d S' H μ vs Q,o xs S=.ok d S'→SR K μ S H→RVs K H μ xs vs→Yld K μ H d S' Q→r vs H Q
variable {ca':CA}
theorem zPj {r:List V→Hp→VK→Prop}{o:List D→M D} (ho:zBX X.K r o):∀ σ H Q,tOf X.K (cApp o ca') σ H Q→tCB r (tOfA X.K ca') σ H Q:=by
 rintro σ H Q ⟨μ,ρ,S,d,S',sr,re,e,y⟩
 obtain ⟨xs,S1,e1,e⟩:=zA7 e
 exact ⟨μ,ρ,S,xs,S1,sr,re,e1,fun vs H1 μ1 sr1 st1 r1=>ho xs S1 d S' H1 μ1 vs Q e sr1 r1 (y.shift st1)⟩
end
open PySem PySem.Spec PyProof.Rows
noncomputable def lim:Nat:=1048576
theorem zBc {n:Nat} (h:n≤lim):n≤sizeLine:=Nat.le_trans h (by decide)
theorem zJ4 {n:Nat} (h:n<lim):n<sizeLine:=Nat.lt_of_lt_of_le h (by decide)
section
variable {K:W.Frag}{H H' H1:Hp}{μ:List Addr}{S:zA2}
theorem SR.same (sr:SR K μ S H) (sm:Same H H1):SR K μ S H1∧Step K μ μ H H1:=by
 have tk:TF K H H1:=zKt sm
 refine ⟨⟨sr.len,sr.nd,fun n a o e1 e2=>?_⟩,⟨⟨[],by simp,by simp⟩,fun b o _ h=>sm b o h,tk⟩⟩
 obtain ⟨u,hu⟩:=sr.isS (List.mem_of_getElem? e1)
 exact (sr.obj n a o e1 e2).up tk ⟨[],by simp⟩ (by rw [hu]; exact sm _ _ hu)
theorem Yld.oldT {ds:List D}{vs:List V}{p:Addr}{Q:VK} (y:Yld K μ H (.tup ds) S Q) (sr:SR K μ S H) (sm:Same H H1) (h:H1 p=some (.tup vs)) (r:RVs K H μ ds vs):Q (.ref p) H1:=by
 obtain ⟨s1,s2⟩:=sr.same sm
 exact y _ _ _ s1 s2 (by exact ⟨p,vs,rfl,h,RVs.up s2.tk s2.ext _ _ r⟩)
theorem zAl {i:Int}:RV K H μ (.int i) (.int i):=by rfl
theorem zBE {i:Bool}:RV K H μ (.bl i) (.bl i):=by rfl
theorem zCq:RV K H μ .non .non:=by rfl
theorem zBb {i:Str}:RV K H μ (.str i) (.str i):=by rfl
theorem SR.lst (sr:SR K μ S H) {n:Nat}{a:Addr}{xs:List D} (h:μ[n]?=some a) (ho:S[n]?=some (.lst xs)):∃ vs,H a=some (.lst vs)∧RVs K H μ xs vs:=sr.obj n a _ h ho
noncomputable def zA9 (S:zA2) (n:Nat):Option (List D):=match S[n]? with
 | some (.lst xs)=>some xs
 | _=>none
theorem SR.sq (sr:SR K μ S H) {n:Nat}{a:Addr}{xs:List D} (h:μ[n]?=some a) (ho:zA9 S n=some xs):∃ vs,SqL K H a vs∧RVs K H μ xs vs:=by
 unfold zA9 at ho
 split at ho
 ·rename_i ys e; cases ho
  obtain ⟨vs,q,r⟩:=sr.get h e
  exact ⟨vs,SqL.of q,r⟩
 ·cases ho
noncomputable def zJz (S:zA2):D→Option (List D)
 | .tup xs=>some xs
 | .lst n=>zA9 S n
 | .rol xs=>some xs
 | _=>none
theorem SR.seq (sr:SR K μ S H) {x:D}{v:V}{xs:List D} (r:RV K H μ x v) (ho:zJz S x=some xs):∃ a vs,v=.ref a∧(SqL K H a vs∨SqT K H a vs)∧RVs K H μ xs vs:=by
 unfold zJz at ho
 split at ho
 ·cases ho
  obtain ⟨p,vs,rfl,q,rr⟩:=r
  exact ⟨p,vs,rfl,.inr (SqT.of q),rr⟩
 ·obtain ⟨a,rfl,hm⟩:=r
  obtain ⟨vs,q,rr⟩:=sr.sq hm ho
  exact ⟨a,vs,rfl,.inl q,rr⟩
 ·cases ho
  obtain ⟨p,vs,rfl,q,rr⟩:=r
  exact ⟨p,vs,rfl,.inl q.sq,rr⟩
 ·cases ho
theorem RVs.cons_inv {d:D}{ds:List D}{vs:List V} (h:RVs K H μ (d::ds) vs):∃ v ws,vs=v::ws∧RV K H μ d v∧RVs K H μ ds ws:=by exact h
theorem RVs.nil_inv {vs:List V} (h:RVs K H μ [] vs):vs=[]:=by exact h
end
noncomputable def oInt (g:Int→Int→Int):D→D→M D
 | .int i,.int j=>ret (.int (g i j))
 | _,_=>bad
noncomputable def oAdd:D→D→M D
 | .int i,.int j=>ret (.int (i+j))
 | .tup xs,.tup ys=>fun S=>if xs.length+ys.length≤lim then .ok (.tup (xs++ys)) S else .bad
 | .lst n,.lst m=>fun S=>match S[n]?,S[m]? with
  | some (.lst xs),some (.lst ys)=>if xs.length+ys.length≤lim then .ok (.lst S.length) (S++[.lst (xs++ys)]) else .bad
  | _,_=>.bad
 | .str x,.str y=>fun S=>if x.length+y.length≤lim then .ok (.str (x++y)) S else .bad
 | _,_=>bad
noncomputable def zNX (i j:Int):Bool:=(decide (-18446744073709551616<i)&&decide (i<18446744073709551616))||(decide (-18446744073709551616<j)&&decide (j<18446744073709551616))
noncomputable def oMul:D→D→M D
 | .int i,.int j=>fun S=>if zNX i j then .ok (.int (i*j)) S else .bad
 | _,_=>bad
noncomputable def oMod:D→D→M D
 | .int i,.int j=>fun S=>if 0<j then .ok (.int (i % j)) S else .bad
 | _,_=>bad
noncomputable def oDiv:D→D→M D
 | .int i,.int j=>fun S=>if 0<j∧j<1073741824 then .ok (.int (i / j)) S else .bad
 | _,_=>bad
noncomputable def oPow:D→D→M D
 | .int i,.int j=>fun S=>if 0≤j∧j≤1000000∧i.natAbs<18446744073709551616 then .ok (.int (i ^ j.toNat)) S else .bad
 | _,_=>bad
noncomputable def oShl:D→D→M D
 | .int i,.int j=>fun S=>if 0≤j∧j≤1000000∧i.natAbs<18446744073709551616 then .ok (.int (i*2 ^ j.toNat)) S else .bad
 | _,_=>bad
noncomputable def oShr:D→D→M D
 | .int i,.int j=>fun S=>if 0≤j then .ok (.int (i / 2 ^ j.toNat)) S else .bad
 | _,_=>bad
noncomputable def oNeg:D→M D
 | .int i=>ret (.int (-i))
 | _=>bad
section
variable {X:Cx}
theorem zIX {op:Operator}{g:Int→Int→Int} (h:OpR X (binaryOp op) (rI0 fun i j=>.int (g i j))):OpS X.K (rAny X (binaryOp op)) (oInt g):=by
 intro x y S d S' H μ v u Q e sr rx ry h'
 unfold oInt at e
 split at e
 ·obtain ⟨rfl,rfl⟩:=zAd e
  subst rx ry
  exact ⟨_,h,_,_,rfl,rfl,h'.self sr zAl⟩
 ·cases e
theorem os_sub:OpS X.K (rAny X (binaryOp .Sub)) (oInt fun i j=>i - j):=zIX op_sub
theorem os_and:OpS X.K (rAny X (binaryOp .BitAnd)) (oInt Builtin.bitAnd):=zIX op_and
theorem os_or:OpS X.K (rAny X (binaryOp .BitOr)) (oInt Builtin.bitOr):=zIX op_or
theorem os_xor:OpS X.K (rAny X (binaryOp .BitXor)) (oInt Builtin.bitXor):=zIX op_xor
theorem os_add:OpS X.K (rAny X (binaryOp .Add)) oAdd:=by
 intro x y S d S' H μ v u Q e sr rx ry h
 unfold oAdd at e
 split at e
 ·obtain ⟨rfl,rfl⟩:=zAd e
  subst rx ry
  exact ⟨_,op_add,_,_,rfl,rfl,h.self sr zAl⟩
 ·try dsimp only at e
  split at e
  ·rename_i hl; cases e
   obtain ⟨p,vs,rfl,q1,r1⟩:=rx
   obtain ⟨p2,ws,rfl,q2,r2⟩:=ry
   exact ⟨_,zNR,p,p2,vs,ws,rfl,rfl,q1,q2,by rw [← r1.len,← r2.len]; exact zBc hl,fun p3 H1 sm sq=>h.oldT sr sm sq (r1.append r2)⟩
  ·cases e
 ·try dsimp only at e
  obtain ⟨p,rfl,m1⟩:=rx
  obtain ⟨p2,rfl,m2⟩:=ry
  split at e
  ·rename_i xs ys o1 o2
   split at e
   ·rename_i hl; cases e
    obtain ⟨vs,q1,r1⟩:=sr.lst m1 o1
    obtain ⟨ws,q2,r2⟩:=sr.lst m2 o2
    exact ⟨_,op_cat,p,p2,vs,ws,rfl,rfl,q1,q2,by rw [← r1.len,← r2.len]; exact zBc hl,fun p3 hp=>h.newL sr hp (r1.append r2)⟩
   ·cases e
  ·cases e
 ·try dsimp only at e
  split at e
  ·rename_i hl; cases e
   subst rx ry
   exact ⟨_,zJF,_,_,rfl,rfl,zBc hl,h.self sr zBb⟩
  ·cases e
 ·cases e
theorem mulOk_c {i j:Int} (h:zNX i j=true):CMul i j:=by
 unfold zNX at h
 simp only [Bool.or_eq_true,Bool.and_eq_true,decide_eq_true_eq] at h
 exact h
theorem os_mul:OpS X.K (rAny X (binaryOp .Mult)) oMul:=by
 intro x y S d S' H μ v u Q e sr rx ry h
 unfold oMul at e
 split at e
 ·try dsimp only at e
  split at e
  ·rename_i hl; cases e
   subst rx ry
   exact ⟨_,op_mul,_,_,rfl,rfl,mulOk_c hl,h.self sr zAl⟩
  ·cases e
 ·cases e
theorem os_mod:OpS X.K (rAny X (binaryOp .Mod)) oMod:=by
 intro x y S d S' H μ v u Q e sr rx ry h
 unfold oMod at e
 split at e
 ·try dsimp only at e
  split at e
  ·rename_i hl; cases e
   subst rx ry
   exact ⟨_,op_mod,_,_,rfl,rfl,hl,h.self sr zAl⟩
  ·cases e
 ·cases e
theorem os_div:OpS X.K (rAny X (binaryOp .FloorDiv)) oDiv:=by
 intro x y S d S' H μ v u Q e sr rx ry h
 unfold oDiv at e
 split at e
 ·try dsimp only at e
  split at e
  ·rename_i hl; cases e
   subst rx ry
   exact ⟨_,zQK,_,_,rfl,rfl,hl,h.self sr zAl⟩
  ·cases e
 ·cases e
theorem os_pow:OpS X.K (rAny X (binaryOp .Pow)) oPow:=by
 intro x y S d S' H μ v u Q e sr rx ry h
 unfold oPow at e
 split at e
 ·try dsimp only at e
  split at e
  ·rename_i hl; cases e
   subst rx ry
   exact ⟨_,op_pow,_,_,rfl,rfl,hl,h.self sr zAl⟩
  ·cases e
 ·cases e
theorem os_shl:OpS X.K (rAny X (binaryOp .LShift)) oShl:=by
 intro x y S d S' H μ v u Q e sr rx ry h
 unfold oShl at e
 split at e
 ·try dsimp only at e
  split at e
  ·rename_i hl; cases e
   subst rx ry
   exact ⟨_,op_shl,_,_,rfl,rfl,hl,h.self sr zAl⟩
  ·cases e
 ·cases e
theorem os_shr:OpS X.K (rAny X (binaryOp .RShift)) oShr:=by
 intro x y S d S' H μ v u Q e sr rx ry h
 unfold oShr at e
 split at e
 ·try dsimp only at e
  split at e
  ·rename_i hl; cases e
   subst rx ry
   exact ⟨_,op_shr,_,_,rfl,rfl,hl,h.self sr zAl⟩
  ·cases e
 ·cases e
theorem us_neg:UnS X.K (uAny X (unaryOp .USub)) oNeg:=by
 intro x S d S' H μ v Q e sr rx h
 unfold oNeg at e
 split at e
 ·obtain ⟨rfl,rfl⟩:=zAd e
  subst rx
  exact ⟨_,un_neg,_,rfl,h.self sr zAl⟩
 ·cases e
noncomputable def oCmp (g:Int→Int→Bool):D→D→M D
 | .int i,.int j=>ret (.bl (g i j))
 | _,_=>bad
theorem zL9 {op:CmpOp}{g:Int→Int→Bool} (h:OpR X (compareOp op) (rI0 fun i j=>.bl (g i j))):OpS X.K (rAny X (compareOp op)) (oCmp g):=by
 intro x y S d S' H μ v u Q e sr rx ry h'
 unfold oCmp at e
 split at e
 ·obtain ⟨rfl,rfl⟩:=zAd e
  subst rx ry
  exact ⟨_,h,_,_,rfl,rfl,h'.self sr zBE⟩
 ·cases e
theorem os_le:OpS X.K (rAny X (compareOp .LtE)) (oCmp fun i j=>decide (i≤j)):=zL9 op_le
theorem os_gt:OpS X.K (rAny X (compareOp .Gt)) (oCmp fun i j=>decide (j<i)):=zL9 op_gt
theorem os_ge:OpS X.K (rAny X (compareOp .GtE)) (oCmp fun i j=>decide (j≤i)):=zL9 op_ge
noncomputable def zDw:List D→Option (List Int)
 | []=>some []
 | .int i::r=>(zDw r).map (i::·)
 | _::_=>none
theorem zC9 {K:W.Frag}{H:Hp}{μ:List Addr}:∀ {ds:List D}{ns:List Int}{vs:List V},zDw ds=some ns→RVs K H μ ds vs→vs=ns.map V.int
 | [],ns,vs,e,r=>by cases e; rw [r.nil_inv]; rfl
 | .int i::ds,ns,vs,e,r=>by
  obtain ⟨v,ws,rfl,r1,r2⟩:=r.cons_inv
  unfold zDw at e
  cases q:zDw ds with
  | none=>rw [q] at e; cases e
  | some ms =>
   rw [q] at e; cases e
   subst r1
   rw [zC9 q r2]; rfl
 | .non::ds,ns,vs,e,r=>by cases e
 | .bl _::ds,ns,vs,e,r=>by cases e
 | .str _::ds,ns,vs,e,r=>by cases e
 | .ty _::ds,ns,vs,e,r=>by cases e
 | .tup _::ds,ns,vs,e,r=>by cases e
 | .lst _::ds,ns,vs,e,r=>by cases e
 | .dct _::ds,ns,vs,e,r=>by cases e
 | .rol _::ds,ns,vs,e,r=>by cases e
 | .xc _::ds,ns,vs,e,r=>by cases e
 | .ob _::ds,ns,vs,e,r=>by cases e
 | .ktp _::ds,ns,vs,e,r=>by cases e
noncomputable def oLt:D→D→M D
 | .int i,.int j=>ret (.bl (decide (i<j)))
 | _,_=>bad
theorem os_lt (hu:X.A.units<cLine):OpS X.K (rAny X (compareOp .Lt)) oLt:=by
 intro x y S d S' H μ v u Q e sr rx ry h
 unfold oLt at e
 split at e
 ·obtain ⟨rfl,rfl⟩:=zAd e
  subst rx ry
  exact ⟨_,op_lt,_,_,rfl,rfl,h.self sr zBE⟩
 ·cases e
noncomputable def snap:Nat→zA2→D→Option PyData
 | 0,_,_=>none
 | n+1,S,d=>match d with
  | .non=>some .none
  | .bl b=>some (.bool b)
  | .int i=>some (.int i)
  | .str x=>if PyData.strOk x then some (.str x) else none
  | .tup xs=>(xs.mapM (snap n S)).map .tuple
  | .lst k=>match zA9 S k with
   | some xs=>(xs.mapM (snap n S)).map .list
   | none=>none
  | _=>none
theorem zPT {K:W.Frag}{H:Hp}{μ:List Addr}{S:zA2}{n:Nat} (ih:∀ d v p,snap n S d=some p→RV K H μ d v→Rp K H (fun _=>True) v p∧p.canLay0=true∧p.depth≤n):∀ (xs:List D) (vs:List V) (ps:List PyData),xs.mapM (snap n S)=some ps→RVs K H μ xs vs→RpL K H (fun _=>True) vs ps∧PyData.canLayAll0 ps=true∧PyData.depthAll ps≤n
 | [],vs,ps,e,r=>by
  simp at e; subst e
  rw [r.nil_inv]
  exact ⟨.nil,rfl,Nat.zero_le _⟩
 | d::ds,vs,ps,e,r=>by
  obtain ⟨v,ws,rfl,r1,r2⟩:=r.cons_inv
  rw [List.mapM_cons] at e
  cases q:snap n S d with
  | none=>rw [q] at e; cases e
  | some p =>
   cases q2:ds.mapM (snap n S) with
   | none=>rw [q,q2] at e; cases e
   | some ps' =>
    rw [q,q2] at e
    cases e
    obtain ⟨a1,a2,a3⟩:=ih d v p q r1
    obtain ⟨b1,b2,b3⟩:=zPT ih ds ws ps' q2 r2
    refine ⟨.cons a1 b1,?_,?_⟩
    ·show (PyData.canLay0 p&&PyData.canLayAll0 ps')=true
     rw [a2,b2]; rfl
    ·show max p.depth (PyData.depthAll ps')≤n
     lia
theorem zD5 {K:W.Frag}{H:Hp}{μ:List Addr}{S:zA2} (sr:SR K μ S H):∀ (n:Nat) (d:D) (v:V) (p:PyData),snap n S d=some p→RV K H μ d v→Rp K H (fun _=>True) v p∧p.canLay0=true∧p.depth≤n
 | 0,d,v,p,e,r=>by cases e
 | n+1,d,v,p,e,r=>by
  unfold snap at e
  cases d with
  | non=>cases e; subst r; exact ⟨.non,rfl,Nat.zero_le _⟩
  | bl b=>cases e; subst r; exact ⟨.bl b,rfl,Nat.zero_le _⟩
  | int i=>cases e; subst r; exact ⟨.int i,rfl,Nat.zero_le _⟩
  | str x =>
   dsimp only at e
   split at e
   ·rename_i hs; cases e; subst r; exact ⟨.str x,hs,Nat.zero_le _⟩
   ·cases e
  | tup xs =>
   dsimp only at e
   cases q:xs.mapM (snap n S) with
   | none=>rw [q] at e; cases e
   | some ps =>
    rw [q] at e; cases e
    obtain ⟨a,vs,rfl,hq,rr⟩:=r
    obtain ⟨b1,b2,b3⟩:=zPT (fun d v p e r=>zD5 sr n d v p e r) xs vs ps q rr
    exact ⟨.tup (SqT.of hq) b1,b2,Nat.succ_le_succ b3⟩
  | lst k =>
   dsimp only at e
   split at e
   ·rename_i xs hx
    cases q:xs.mapM (snap n S) with
    | none=>rw [q] at e; cases e
    | some ps =>
     rw [q] at e; cases e
     obtain ⟨a,rfl,hm⟩:=r
     obtain ⟨vs,hq,rr⟩:=sr.sq hm hx
     obtain ⟨b1,b2,b3⟩:=zPT (fun d v p e r=>zD5 sr n d v p e r) xs vs ps q rr
     exact ⟨.lst True.intro hq b1,b2,Nat.succ_le_succ b3⟩
   ·cases e
  | dct k=>cases e
  | ty k=>cases e
  | rol k=>cases e
  | xc _=>cases e
  | ob _=>cases e
  | ktp _=>cases e
noncomputable def oEq:D→D→M D:=fun x y S=>match x,y with
 | .str a,.str b=>.ok (.bl (decide (a=b))) S
 | _,_=>match snap 40 S x,snap 40 S y with
  | some p,some q=>.ok (.bl (PyData.eqv p q)) S
  | _,_=>.bad
noncomputable def oNe:D→D→M D:=fun x y S=>match x,y with
 | .str a,.str b=>.ok (.bl (!decide (a=b))) S
 | _,_=>match snap 40 S x,snap 40 S y with
  | some p,some q=>.ok (.bl (!PyData.eqv p q)) S
  | _,_=>.bad
theorem os_eq (hu:X.A.units+64<cLine):OpS X.K (rAny X (compareOp .Eq)) oEq:=by
 intro x y S d S' H μ v u Q e sr rx ry h
 unfold oEq at e
 split at e
 ·rename_i a b
  cases e
  subst rx ry
  refine ⟨_,op_eq,rfl,?_⟩
  have z:decide (V.str a=V.str b)=decide (a=b):=by simp
  rw [z]
  exact h.self sr zBE
 ·split at e
  ·rename_i p q e1 e2
   cases e
   obtain ⟨a1,a2,a3⟩:=zD5 sr 40 x v p e1 rx
   obtain ⟨b1,b2,b3⟩:=zD5 sr 40 y u q e2 ry
   exact ⟨_,op_eqD hu,_,_,p,q,a1,b1,⟨a2,by lia⟩,⟨b2,by lia⟩,h.self sr zBE⟩
  ·cases e
theorem os_ne (hu:X.A.units+64<cLine):OpS X.K (rAny X (compareOp .NotEq)) oNe:=by
 intro x y S d S' H μ v u Q e sr rx ry h
 unfold oNe at e
 split at e
 ·rename_i a b
  cases e
  unfold RV at rx ry; subst rx ry
  refine ⟨_,op_ne,rfl,?_⟩
  have z:decide (V.str a=V.str b)=decide (a=b):=by simp
  rw [z]
  exact h.self sr zBE
 ·split at e
  ·rename_i p q e1 e2
   cases e
   obtain ⟨a1,a2,a3⟩:=zD5 sr 40 x v p e1 rx
   obtain ⟨b1,b2,b3⟩:=zD5 sr 40 y u q e2 ry
   exact ⟨_,op_neD hu,_,_,p,q,a1,b1,⟨a2,by lia⟩,⟨b2,by lia⟩,h.self sr zBE⟩
  ·cases e
noncomputable def D.isNon:D→Bool
 | .non=>true
 | _=>false
theorem zLF {K:W.Frag}{H:Hp}{μ:List Addr}{x:D}{v:V} (r:RV K H μ x v):decide (v=.non)=x.isNon:=by
 cases x with
 | non=>unfold RV at r; subst r; rfl
 | bl _=>unfold RV at r; subst r; rfl
 | int _=>unfold RV at r; subst r; rfl
 | str _=>unfold RV at r; subst r; rfl
 | ty _=>unfold RV at r; subst r; rfl
 | tup _=>unfold RV at r; obtain ⟨_,_,rfl,_⟩:=r; rfl
 | lst _=>unfold RV at r; obtain ⟨_,rfl,_⟩:=r; rfl
 | dct _=>unfold RV at r; obtain ⟨_,rfl,_⟩:=r; rfl
 | rol _=>unfold RV at r; obtain ⟨_,_,rfl,_⟩:=r; rfl
 | xc _=>unfold RV at r; obtain ⟨_,_,_,rfl,_⟩:=r; rfl
 | ob _=>unfold RV at r; obtain ⟨_,_,_,_,_,rfl,_⟩:=r; rfl
 | ktp _=>unfold RV at r; obtain ⟨_,rfl,_⟩:=r; rfl
noncomputable def oIs:D→D→M D
 | x,.non=>ret (.bl x.isNon)
 | .bl a,.bl b=>ret (.bl (a == b))
 | _,_=>bad
noncomputable def zGJ:D→D→M D
 | x,.non=>ret (.bl (!x.isNon))
 | .bl a,.bl b=>ret (.bl (a != b))
 | _,_=>bad
theorem os_is:OpS X.K (rAny X (compareOp .Is)) oIs:=by
 intro x y S d S' H μ v u Q e sr rx ry h
 unfold oIs at e
 split at e
 ·obtain ⟨rfl,rfl⟩:=zAd e
  exact ⟨_,op_isN,ry,by rw [zLF rx]; exact h.self sr zBE⟩
 ·obtain ⟨rfl,rfl⟩:=zAd e
  subst rx ry
  exact ⟨_,zNQ,_,_,rfl,rfl,h.self sr zBE⟩
 ·cases e
theorem zNP:OpS X.K (rAny X (compareOp .IsNot)) zGJ:=by
 intro x y S d S' H μ v u Q e sr rx ry h
 unfold zGJ at e
 split at e
 ·obtain ⟨rfl,rfl⟩:=zAd e
  exact ⟨_,zQI,ry,by rw [zLF rx]; exact h.self sr zBE⟩
 ·obtain ⟨rfl,rfl⟩:=zAd e
  subst rx ry
  exact ⟨_,zHQ,_,_,rfl,rfl,h.self sr zBE⟩
 ·cases e
noncomputable def flat:D→Option V
 | .non=>some .non
 | .bl b=>some (.bl b)
 | .int i=>some (.int i)
 | .str x=>some (.str x)
 | _=>none
theorem zPq {K:W.Frag}{H:Hp}{μ:List Addr}{x:D}{v w:V} (e:flat x=some w) (r:RV K H μ x v):v=w:=by
 cases x with
 | non=>cases e; exact r
 | bl _=>cases e; exact r
 | int _=>cases e; exact r
 | str _=>cases e; exact r
 | _=>cases e
theorem zLT {K:W.Frag}{H:Hp}{μ:List Addr}:∀ {ds:List D}{vs ws:List V},ds.mapM flat=some ws→RVs K H μ ds vs→vs=ws
 | [],vs,ws,e,r=>by simp at e; subst e; exact r.nil_inv
 | d::ds,vs,ws,e,r=>by
  obtain ⟨v,us,rfl,r1,r2⟩:=r.cons_inv
  rw [List.mapM_cons] at e
  cases q:flat d with
  | none=>rw [q] at e; cases e
  | some w =>
   cases q2:ds.mapM flat with
   | none=>rw [q,q2] at e; cases e
   | some ws' =>
    rw [q,q2] at e; cases e
    rw [zPq q r1,zLT q2 r2]
noncomputable def zFT:D→Option Key
 | .int i=>some (.inl i)
 | .str x=>some (.inr x)
 | _=>none
theorem zE9 {K:W.Frag}{H:Hp}{μ:List Addr}{x:D}{v:V}{k:Key} (e:zFT x=some k) (r:RV K H μ x v):v=kV k:=by
 cases x with
 | int _=>cases e; exact r
 | str _=>cases e; exact r
 | _=>cases e
noncomputable def valD {κ:Type} [DecidableEq κ] (kvs:List (κ × D)) (k:κ):Option D:=(kvs.find? fun kv=>decide (kv.1=k)).map (·.2)
noncomputable def putD {κ:Type} [DecidableEq κ] (kvs:List (κ × D)) (k:κ) (v:D):List (κ × D) :=
 if (kvs.any fun kv=>decide (kv.1=k))=true then kvs.map (fun kv=>if kv.1=k then (kv.1,v) else kv) else kvs++[(k,v)]
section
variable {κ:Type} [DecidableEq κ] {K:W.Frag}{H:Hp}{μ:List Addr}
theorem RKs.cons_inv {p:κ × D}{kvs:List (κ × D)}{ws:List (κ × V)} (h:RKs K H μ (p::kvs) ws):∃ q us,ws=q::us∧p.1=q.1∧RV K H μ p.2 q.2∧RKs K H μ kvs us:=by
 obtain ⟨h1,h2⟩:=h
 rw [List.map_cons] at h1 h2
 obtain ⟨v,vs,e,r1,r2⟩:=h2.cons_inv
 cases ws with
 | nil=>simp at h1
 | cons q us =>
  rw [List.map_cons] at h1 e
  cases e
  rw [List.cons.injEq] at h1
  exact ⟨q,us,rfl,h1.1,r1,h1.2,r2⟩
theorem RKs.val {k:κ}:∀ {kvs:List (κ × D)}{ws:List (κ × V)},RKs K H μ kvs ws→(∀ d,valD kvs k=some d→∃ v,valV ws k=some v∧RV K H μ d v)∧(valD kvs k=none→valV ws k=none)
 | [],ws,h=>by
  have:ws=[]:=by have:=h.1; cases ws with | nil=>rfl | cons a b=>simp at this
  subst this
  exact ⟨fun d e=>(by cases e),fun _=>rfl⟩
 | p::kvs,ws,h=>by
  obtain ⟨q,us,rfl,e1,r1,r2⟩:=h.cons_inv
  obtain ⟨i1,i2⟩:=RKs.val r2
  by_cases hk:p.1=k
  ·have e2:valD (p::kvs) k=some p.2:=by simp [valD,hk]
   rw [e2,zDI (e1▸hk)]
   exact ⟨fun d e=>by cases e; exact ⟨_,rfl,r1⟩,fun e=>by cases e⟩
  ·have e2:valD (p::kvs) k=valD kvs k:=by simp [valD,hk]
   rw [e2,zDJ (e1▸hk)]
   exact ⟨i1,i2⟩
theorem RKs.nil:RKs K H μ ([]:List (κ × D)) []:=⟨rfl,RVs.nil⟩
theorem RKs.cons {k:κ}{d:D}{v:V}{kvs:List (κ × D)}{ws:List (κ × V)} (r:RV K H μ d v) (h:RKs K H μ kvs ws):RKs K H μ ((k,d)::kvs) ((k,v)::ws):=⟨by rw [List.map_cons,List.map_cons,h.1],by exact .cons r h.2⟩
theorem RKs.any {k:κ}:∀ {kvs:List (κ × D)}{ws:List (κ × V)},RKs K H μ kvs ws→(kvs.any fun kv=>decide (kv.1=k))=(ws.any fun kv=>decide (kv.1=k))
 | [],ws,h=>by
  have:ws=[]:=by have:=h.1; cases ws with | nil=>rfl | cons a b=>simp at this
  subst this; rfl
 | p::kvs,ws,h=>by
  obtain ⟨q,us,rfl,e1,r1,r2⟩:=h.cons_inv
  rw [List.any_cons,List.any_cons,RKs.any r2,e1]
theorem RKs.mapSet {k:κ}{d:D}{v:V} (rv:RV K H μ d v):∀ {kvs:List (κ × D)}{ws:List (κ × V)},RKs K H μ kvs ws→RKs K H μ (kvs.map (fun kv=>if kv.1=k then (kv.1,d) else kv)) (ws.map (fun kv=>if kv.1=k then (kv.1,v) else kv))
 | [],ws,h=>by
  have:ws=[]:=by have:=h.1; cases ws with | nil=>rfl | cons a b=>simp at this
  subst this; exact .nil
 | p::kvs,ws,h=>by
  obtain ⟨q,us,rfl,e1,r1,r2⟩:=h.cons_inv
  rw [List.map_cons,List.map_cons]
  obtain ⟨p1,p2⟩:=p
  obtain ⟨q1,q2⟩:=q
  subst e1
  by_cases hk:p1=k
  ·rw [if_pos hk,if_pos hk]; exact .cons rv (RKs.mapSet rv r2)
  ·rw [if_neg hk,if_neg hk]; exact .cons r1 (RKs.mapSet rv r2)
theorem RKs.append {as:List (κ × D)}{bs:List (κ × V)}{cs:List (κ × D)}{ds:List (κ × V)} (h:RKs K H μ as bs) (g:RKs K H μ cs ds):RKs K H μ (as++cs) (bs++ds):=⟨by rw [List.map_append,List.map_append,h.1,g.1],by rw [List.map_append,List.map_append]; exact h.2.append g.2⟩
theorem RKs.put {k:κ}{d:D}{v:V} (rv:RV K H μ d v) {kvs:List (κ × D)}{ws:List (κ × V)} (h:RKs K H μ kvs ws):RKs K H μ (putD kvs k d) (putK ws k v):=by
 unfold putD putK
 rw [h.any]
 by_cases hc:(ws.any fun kv=>decide (kv.1=k))=true
 ·rw [if_pos hc,if_pos hc]; exact h.mapSet rv
 ·rw [if_neg hc,if_neg hc]; exact h.append (.cons rv .nil)
noncomputable def mrgD (kvs more:List (κ × D)):List (κ × D):=more.foldl (fun acc kv=>putD acc kv.1 kv.2) kvs
theorem RKs.len {kvs:List (κ × D)}{ws:List (κ × V)} (h:RKs K H μ kvs ws):kvs.length=ws.length:=by
 have:=congrArg List.length h.1
 simpa using this
end
noncomputable def dictAt (S:zA2) (n:Nat) (x:D):Option (Option D):=match S[n]? with
 | some (.dk kvs)=>(zFT x).map fun k=>valD kvs k
 | some (.fk kvs)=>(zFT x).map fun k=>valD kvs k
 | _=>none
theorem zH9 {K:W.Frag}{H:Hp}{μ:List Addr}{S:zA2}{n:Nat}{x:D}{v:V}{a:Addr}{r:Option D} (sr:SR K μ S H) (e:dictAt S n x=some r) (hm:μ[n]?=some a) (rx:RV K H μ x v):∃ o,DGet H a v o∧(∀ d,r=some d→∃ w,o=some w∧RV K H μ d w)∧(r=none→o=none):=by
 unfold dictAt at e
 split at e
 ·rename_i kvs ho
  cases q:zFT x with
  | none=>rw [q] at e; cases e
  | some k =>
   rw [q] at e; cases e
   obtain ⟨ws,hw,rr⟩:=sr.get hm ho
   have:=zE9 q rx
   subst this
   exact ⟨valV ws k,DGet.k hw,(rr.val).1,(rr.val).2⟩
 ·rename_i kvs ho
  cases q:zFT x with
  | none=>rw [q] at e; cases e
  | some k =>
   rw [q] at e; cases e
   obtain ⟨o,ws,hw,rr⟩:=sr.get hm ho
   have:=zE9 q rx
   subst this
   exact ⟨valV ws k,.inl ⟨_,_,.inr ⟨o,hw⟩,rfl,rfl⟩,(rr.val (k:=k)).1,(rr.val (k:=k)).2⟩
 ·cases e
noncomputable def oIn (neg:Bool):D→D→M D:=fun x y S=>match y with
 | .dct n=>match dictAt S n x with
  | some o=>.ok (.bl (if neg then !o.isSome else o.isSome)) S
  | none=>.bad
 | _=>match zJz S y,flat x with
  | some ys,some v=>match ys.mapM flat with
   | some vs=>.ok (.bl (if neg then !inV v vs else inV v vs)) S
   | none=>.bad
  | _,_=>.bad
theorem zFv {x:D}{v:V} (h:flat x=some v):zER v=true:=by
 cases x <;> first | (cases h; rfl) | cases h
theorem zEf:∀ {ds:List D}{vs:List V},ds.mapM flat=some vs→vs.all zER=true
 | [],vs,e=>by simp at e; subst e; rfl
 | d::ds,vs,e=>by
  rw [List.mapM_cons] at e
  cases q:flat d with
  | none=>rw [q] at e; cases e
  | some w =>
   cases q2:ds.mapM flat with
   | none=>rw [q,q2] at e; cases e
   | some ws' =>
    rw [q,q2] at e; cases e
    rw [List.all_cons,zFv q,zEf q2]; rfl
theorem op_din (hu:X.A.units+1<cLine):OpR X (compareOp .In) (fun y x H Q=>∃ a o,x=.ref a∧DGet H a y o∧Q (.bl o.isSome) H):=by
 intro pins s σ H y x v u Q I ry rx h
 obtain ⟨a,o,rfl,g,q⟩:=h
 obtain rfl:u=Value.ref a:=rx
 exact d_in hu I g ry fun s3 I3=>⟨.bl o.isSome,H,I3,rfl,q⟩
theorem zLc (hu:X.A.units+1<cLine):OpR X (compareOp .NotIn) (fun y x H Q=>∃ a o,x=.ref a∧DGet H a y o∧Q (.bl (!o.isSome)) H):=by
 intro pins s σ H y x v u Q I ry rx h
 obtain ⟨a,o,rfl,g,q⟩:=h
 obtain rfl:u=Value.ref a:=rx
 exact d_notIn hu I g ry fun s3 I3=>⟨.bl (!o.isSome),H,I3,rfl,q⟩
theorem zFp {neg:Bool}{op:CmpOp} (h1:OpR X (compareOp op) (rIn X.K neg)) (h2:OpR X (compareOp op) (fun y x H Q=>∃ a o,x=.ref a∧DGet H a y o∧Q (.bl (if neg then !o.isSome else o.isSome)) H))
  : OpS X.K (rAny X (compareOp op)) (oIn neg):=by
 intro x y S d S' H μ v u Q e sr rx ry h
 unfold oIn at e
 split at e
 ·rename_i n
  split at e
  ·rename_i o ho
   cases e
   unfold RV at ry
   obtain ⟨a,rfl,hm⟩:=ry
   obtain ⟨o',g,g1,g2⟩:=zH9 sr ho hm rx
   have e2:o'.isSome=o.isSome:=by
    cases o with
    | none=>simp [g2 rfl]
    | some d=>obtain ⟨w,rfl,_⟩:=g1 d rfl; rfl
   exact ⟨_,h2,a,o',rfl,g,by rw [e2]; exact h.self sr zBE⟩
  ·cases e
 ·split at e
  ·rename_i ys w e1 e2
   split at e
   ·rename_i ws e3
    cases e
    obtain ⟨a,vs,rfl,hq,rr⟩:=sr.seq ry e1
    have z1:=zPq e2 rx
    have z2:=zLT e3 rr
    subst z1 z2
    exact ⟨_,h1,a,vs,rfl,hq,zFv e2,zEf e3,h.self sr zBE⟩
   ·cases e
  ·cases e
theorem os_in (hu:X.A.units+64<cLine):OpS X.K (rAny X (compareOp .In)) (oIn false):=zFp zLb (op_din (by lia))
theorem zNO (hu:X.A.units+64<cLine):OpS X.K (rAny X (compareOp .NotIn)) (oIn true):=zFp zGH (zLc (by lia))
end
open PySem PySem.Spec PyProof.Rows
section
variable {X:Cx}
theorem ix_dict (hu:X.A.units+1<cLine):IxR X (fun x y H Q=>∃ a v,x=.ref a∧DGet H a y (some v)∧Q v H):=by
 intro value slice pins s σ H x y v u Q I rx ry h hs
 obtain ⟨a,z,rfl,g,q⟩:=h
 obtain rfl:v=Value.ref a:=rx
 have hT:=zIe I g
 have h₂:wpAny (model X.prog X.w) X.A (getItem (.ref a) u) (EP X pins σ Q) X.xe s:=zMd hu I g ry fun w' s3 I3 rw'=>⟨z,H,I3,rw',q⟩
 refine wpAny_bind ?_
 refine wpAny_bind (wpAny_specialOf hT PySem.F.slot_dict_getitem.lookup ?_)
 have fin:wpAny (model X.prog X.w) X.A (subscripted slice false (.ref a) u) (fun r s₃=>wpAny (model X.prog X.w) X.A (letTemporaryGo value (.ref a) r >>= fun _=>pure r) (EP X pins σ Q) X.xe s₃) X.xe s:=by
  rw [hs]
  exact wpAny_operating (wpAny_mono h₂ (fun r s₃ h₃=>wpAny_bind (wpAny_letTemporaryGo (wpAny_pure h₃))) fun _ _ x=>x)
 exact wpAny_pure (wpAny_bind fin)
noncomputable def oIx:D→D→M D:=fun x i S=>match x with
 | .dct n=>match dictAt S n i with
  | some (some d)=>.ok d S
  | _=>.bad
 | .str z=>match i with
  | .int j=>match atI z.cps.toList j with
   | some c=>if z.length≤lim then .ok (.str ⟨#[c]⟩) S else .bad
   | none=>.bad
  | _=>.bad
 | _=>match zJz S x,i with
  | some xs,.int j=>match atI xs j with
   | some d=>.ok d S
   | none=>.bad
  | _,_=>.bad
theorem RVs.at {K:W.Frag}{H:Hp}{μ:List Addr}{ds:List D}{vs:List V}{i:Int}{d:D} (r:RVs K H μ ds vs) (e:atI ds i=some d):∃ v,atI vs i=some v∧RV K H μ d v:=by
 unfold atI at e ⊢
 rw [← r.len]
 cases q:ixN ds.length i with
 | none=>rw [q] at e; cases e
 | some j =>
  rw [q] at e
  obtain ⟨v,e1,e2⟩:=r.get e
  exact ⟨v,e1,e2⟩
theorem os_ix (hu:X.A.units+1<cLine):OpS X.K (zLA X) oIx:=by
 intro x y S d S' H μ v u Q e sr rx ry h
 unfold oIx at e
 split at e
 ·rename_i n
  split at e
  ·rename_i d' ho
   cases e
   unfold RV at rx
   obtain ⟨a,rfl,hm⟩:=rx
   obtain ⟨o,g,g1,_⟩:=zH9 sr ho hm ry
   obtain ⟨w,rfl,rw'⟩:=g1 _ rfl
   exact ⟨_,ix_dict hu,a,w,rfl,g,h.self sr rw'⟩
  ·cases e
 ·rename_i z
  split at e
  ·rename_i j
   split at e
   ·rename_i c hc
    split at e
    ·rename_i hl
     cases e
     unfold RV at rx ry
     subst rx ry
     exact ⟨_,ix_str,z,j,c,rfl,rfl,zBc hl,hc,h.self sr zBb⟩
    ·cases e
   ·cases e
  ·cases e
 ·split at e
  ·rename_i xs j e1
   split at e
   ·rename_i d' e2
    cases e
    obtain ⟨a,vs,rfl,hq,rr⟩:=sr.seq rx e1
    obtain ⟨w,e3,rw'⟩:=rr.at e2
    unfold RV at ry
    subst ry
    rcases hq with hq | hq
    ·exact ⟨_,ix_list,a,vs,j,w,rfl,rfl,hq,e3,h.self sr rw'⟩
    ·exact ⟨_,ix_tup,a,vs,j,w,rfl,rfl,hq,e3,h.self sr rw'⟩
   ·cases e
  ·cases e
noncomputable def cutD (xs:List D) (lo hi:Option Int):List D:=(xs.drop (HT.sIx xs.length 0 lo)).take (HT.sIx xs.length xs.length hi - HT.sIx xs.length 0 lo)
noncomputable def oSl:D→Option Int→Option Int→M D:=fun x lo hi S=>match x with
 | .tup xs=>.ok (.tup (cutD xs lo hi)) S
 | .lst n=>match zA9 S n with
  | some xs=>.ok (.lst S.length) (S++[.lst (cutD xs lo hi)])
  | none=>.bad
 | .rol xs=>.ok (.lst S.length) (S++[.lst (cutD xs lo hi)])
 | .str z=>if z.length≤lim then .ok (.str (Txt.slice z lo hi)) S else .bad
 | _=>.bad
theorem RVs.cut {K:W.Frag}{H:Hp}{μ:List Addr}{ds:List D}{vs:List V} (r:RVs K H μ ds vs) (lo hi:Option Int):RVs K H μ (cutD ds lo hi) (cutV vs lo hi):=by
 unfold cutD cutV
 rw [r.len]
 exact (r.drop _).take _
theorem ss_sl:SlS X.K (zKE X) oSl:=by
 intro x lo hi S d S' H μ v Q e sr rx h
 unfold oSl at e
 split at e
 ·cases e
  unfold RV at rx
  obtain ⟨p,vs,rfl,q,rr⟩:=rx
  exact ⟨_,zPU,p,vs,rfl,q,fun p2 H1 sm sq=>h.oldT sr sm sq (rr.cut lo hi)⟩
 ·split at e
  ·rename_i xs e1
   cases e
   unfold RV at rx
   obtain ⟨a,rfl,hm⟩:=rx
   obtain ⟨vs,q,rr⟩:=sr.sq hm e1
   exact ⟨_,zKD,a,vs,rfl,q,fun p hp=>h.newL sr hp (rr.cut lo hi)⟩
  ·cases e
 ·cases e
  unfold RV at rx
  obtain ⟨p,vs,rfl,q,rr⟩:=rx
  exact ⟨_,zKD,p,vs,rfl,q.sq,fun p hp=>h.newL sr hp (rr.cut lo hi)⟩
 ·split at e
  ·rename_i hl
   cases e
   unfold RV at rx; subst rx
   exact ⟨_,sl_str,_,rfl,zBc hl,h.self sr zBb⟩
  ·cases e
 ·cases e
noncomputable def fLen:List D→M D:=fun xs S=>match xs with
 | [.str x]=>if x.length≤lim then .ok (.int x.length) S else .bad
 | [.dct n]=>match S[n]? with
  | some (.dk kvs)=>.ok (.int kvs.length) S
  | some (.fk kvs)=>.ok (.int kvs.length) S
  | _=>.bad
 | [.ktp ys]=>.ok (.int ys.length) S
 | [x]=>match zJz S x with
  | some ys=>.ok (.int ys.length) S
  | none=>.bad
 | _=>.bad
theorem RVs.one {K:W.Frag}{H:Hp}{μ:List Addr}{d:D}{vs:List V} (h:RVs K H μ [d] vs):∃ v,vs=[v]∧RV K H μ d v:=by
 obtain ⟨v,ws,rfl,r1,r2⟩:=h.cons_inv
 rw [r2.nil_inv]
 exact ⟨v,rfl,r1⟩
theorem RVs.two {K:W.Frag}{H:Hp}{μ:List Addr}{d e:D}{vs:List V} (h:RVs K H μ [d,e] vs):∃ v u,vs=[v,u]∧RV K H μ d v∧RV K H μ e u:=by
 obtain ⟨v,ws,rfl,r1,r2⟩:=h.cons_inv
 obtain ⟨u,rfl,r3⟩:=r2.one
 exact ⟨v,u,rfl,r1,r3⟩
theorem cs_len:zBX X.K (cAny X (.builtin "len")) fLen:=by
 intro xs S d S' H μ vs Q e sr rx h
 unfold fLen at e
 split at e
 ·split at e
  ·rename_i hl; cases e
   obtain ⟨v,rfl,r⟩:=rx.one
   subst r
   exact ⟨_,zHk,_,rfl,zBc hl,h.self sr zAl⟩
  ·cases e
 ·obtain ⟨v,rfl,r⟩:=rx.one
  unfold RV at r; obtain ⟨a,rfl,hm⟩:=r
  split at e
  ·rename_i kvs ho
   cases e
   obtain ⟨ws,hw,rr⟩:=sr.get hm ho
   exact ⟨_,zHl,a,ws,rfl,.inl hw,by rw [← rr.len]; exact h.self sr zAl⟩
  ·rename_i kvs ho
   cases e
   obtain ⟨o,ws,hw,rr⟩:=sr.get hm ho
   exact ⟨_,zHl,a,ws,rfl,.inr ⟨o,hw⟩,by rw [← rr.len]; exact h.self sr zAl⟩
  ·cases e
 ·cases e
  obtain ⟨v,rfl,r⟩:=rx.one
  unfold RV at r; obtain ⟨a,rfl,hq⟩:=r
  exact ⟨_,zDy,a,_,rfl,.inr hq,by rw [List.length_map]; exact h.self sr zAl⟩
 ·split at e
  ·rename_i ys e1
   cases e
   obtain ⟨v,rfl,r⟩:=rx.one
   obtain ⟨a,vs,rfl,hq,rr⟩:=sr.seq r e1
   exact ⟨_,zDy,a,vs,rfl,hq,by rw [← rr.len]; exact h.self sr zAl⟩
  ·cases e
 ·cases e
noncomputable def zE5 (a:Int):List Int→Int
 | []=>a
 | b::r=>if b<a then zE5 b r else zE5 a r
noncomputable def zHY (a:Int):List Int→Int
 | []=>a
 | b::r=>if a<b then zHY b r else zHY a r
theorem zCz:∀ (a:Int) (r:List Int),zE5 a r∈a::r∧∀ x∈a::r,zE5 a r≤x
 | a,[]=>by simp [zE5]
 | a,b::r=>by
  unfold zE5
  split
  ·have h:=zCz b r
   refine ⟨List.mem_cons_of_mem _ h.1,fun x hx=>?_⟩
   rcases List.mem_cons.mp hx with rfl | hx
   ·have:=h.2 b (by simp); lia
   ·exact h.2 x hx
  ·have h:=zCz a r
   refine ⟨?_,fun x hx=>?_⟩
   ·rcases List.mem_cons.mp h.1 with e | e
    ·rw [e]; simp
    ·simp_all
   ·have:=h.2 a (by simp)
    rcases List.mem_cons.mp hx with rfl | hx
    ·lia
    rcases List.mem_cons.mp hx with rfl | hx
    ·lia
    ·simp_all
theorem zD8:∀ (a:Int) (r:List Int),zHY a r∈a::r∧∀ x∈a::r,x≤zHY a r
 | a,[]=>by simp [zHY]
 | a,b::r=>by
  unfold zHY
  split
  ·have h:=zD8 b r
   refine ⟨List.mem_cons_of_mem _ h.1,fun x hx=>?_⟩
   rcases List.mem_cons.mp hx with rfl | hx
   ·have:=h.2 b (by simp); lia
   ·exact h.2 x hx
  ·have h:=zD8 a r
   refine ⟨?_,fun x hx=>?_⟩
   ·rcases List.mem_cons.mp h.1 with e | e
    ·rw [e]; simp
    ·simp_all
   ·have:=h.2 a (by simp)
    rcases List.mem_cons.mp hx with rfl | hx
    ·lia
    rcases List.mem_cons.mp hx with rfl | hx
    ·lia
    ·simp_all
noncomputable def fMin:List D→M D:=fun xs S=>match xs with
 | [.int i,.int j]=>.ok (.int (if j<i then j else i)) S
 | [.lst n]=>match (zA9 S n).bind zDw with
  | some (a::r)=>.ok (.int (zE5 a r)) S
  | _=>.bad
 | _=>.bad
noncomputable def fMax:List D→M D:=fun xs S=>match xs with
 | [.int i,.int j]=>.ok (.int (if j>i then j else i)) S
 | [.lst n]=>match (zA9 S n).bind zDw with
  | some (a::r)=>.ok (.int (zHY a r)) S
  | _=>.bad
 | _=>.bad
theorem cs_min (hc:X.calm=true):zBX X.K (cAny X (.builtin "min")) fMin:=by
 intro xs S d S' H μ vs Q e sr rx h
 unfold fMin at e
 split at e
 ·cases e
  obtain ⟨v,u,rfl,r1,r2⟩:=rx.two
  subst r1 r2
  exact ⟨_,zMy hc,_,_,rfl,h.self sr zAl⟩
 ·split at e
  ·rename_i b r e1
   cases e
   obtain ⟨ys,e2,e3⟩:=Option.bind_eq_some_iff.mp e1
   obtain ⟨v,rfl,r1⟩:=rx.one
   unfold RV at r1; obtain ⟨a,rfl,hm⟩:=r1
   obtain ⟨ws,q,rr⟩:=sr.sq hm e2
   have z:=zC9 e3 rr
   subst z
   refine ⟨_,zMx hc,a,b::r,rfl,q,by simp,fun M m1 m2=>?_⟩
   have s:=zCz b r
   rw [Int.le_antisymm (m2 _ s.1) (s.2 _ m1)]
   exact h.self sr zAl
  ·cases e
 ·cases e
theorem cs_max (hc:X.calm=true):zBX X.K (cAny X (.builtin "max")) fMax:=by
 intro xs S d S' H μ vs Q e sr rx h
 unfold fMax at e
 split at e
 ·cases e
  obtain ⟨v,u,rfl,r1,r2⟩:=rx.two
  subst r1 r2
  exact ⟨_,zMA hc,_,_,rfl,h.self sr zAl⟩
 ·split at e
  ·rename_i b r e1
   cases e
   obtain ⟨ys,e2,e3⟩:=Option.bind_eq_some_iff.mp e1
   obtain ⟨v,rfl,r1⟩:=rx.one
   unfold RV at r1; obtain ⟨a,rfl,hm⟩:=r1
   obtain ⟨ws,q,rr⟩:=sr.sq hm e2
   have z:=zC9 e3 rr
   subst z
   refine ⟨_,zMz hc,a,b::r,rfl,q,by simp,fun M m1 m2=>?_⟩
   have s:=zD8 b r
   rw [Int.le_antisymm (s.2 _ m1) (m2 _ s.1)]
   exact h.self sr zAl
  ·cases e
 ·cases e
noncomputable def zCr:List D→M D:=fun xs S=>match xs with
 | [.tup ys]=>.ok (.tup ys) S
 | [.lst n]=>match zA9 S n with
  | some ys=>.ok (.tup ys) S
  | none=>.bad
 | _=>.bad
theorem zOP:zBX X.K (cAny X (.type "tuple")) zCr:=by
 intro xs S d S' H μ vs Q e sr rx h
 unfold zCr at e
 split at e
 ·cases e
  obtain ⟨v,rfl,r⟩:=rx.one
  have r':=r
  obtain ⟨p,ws,rfl,q,rr⟩:=r'
  exact ⟨_,zD2,p,ws,rfl,.inr ⟨SqT.of q,h.self sr r⟩⟩
 ·split at e
  ·rename_i ys e1
   cases e
   obtain ⟨v,rfl,r⟩:=rx.one
   obtain ⟨a,rfl,hm⟩:=r
   obtain ⟨ws,q,rr⟩:=sr.sq hm e1
   exact ⟨_,zD2,a,ws,rfl,.inl ⟨q,fun l hl=>h.newT sr hl rr⟩⟩
  ·cases e
 ·cases e
noncomputable def fInt:List D→M D:=fun xs S=>match xs with
 | [.int i]=>.ok (.int i) S
 | [.bl b]=>.ok (.int (if b then 1 else 0)) S
 | [.str z]=>if z.length≤640 then (match PySem.intText? z with | some n=>.ok (.int n) S | none=>.bad) else .bad
 | _=>.bad
theorem cs_int:zBX X.K (cAny X (.type "int")) fInt:=by
 intro xs S d S' H μ vs Q e sr rx h
 unfold fInt at e
 split at e
 ·cases e
  obtain ⟨v,rfl,r⟩:=rx.one
  unfold RV at r; subst r
  exact ⟨_,zHn,.inl ⟨_,rfl,h.self sr zAl⟩⟩
 ·cases e
  obtain ⟨v,rfl,r⟩:=rx.one
  unfold RV at r; subst r
  exact ⟨_,zHn,.inr ⟨_,rfl,h.self sr zAl⟩⟩
 ·split at e
  ·rename_i hl
   split at e
   ·rename_i n hn
    cases e
    obtain ⟨v,rfl,r⟩:=rx.one
    unfold RV at r; subst r
    exact ⟨_,zMB,_,_,rfl,hn,hl,h.self sr zAl⟩
   ·cases e
  ·cases e
 ·cases e
noncomputable def dictK (S:zA2) (n:Nat):Option String:=match S[n]? with
 | some (.dk _)=>some "dict"
 | _=>none
noncomputable def zOi (S:zA2):D→Option String
 | .non=>some "NoneType"
 | .bl _=>some "bool"
 | .int _=>some "int"
 | .str _=>some "str"
 | .tup _=>some "tuple"
 | .lst n=>if (zA9 S n).isSome then some "list" else none
 | .dct n=>dictK S n
 | _=>none
noncomputable def zAG:List D→M D:=fun xs S=>match xs with
 | [x,.ty T]=>match zOi S x with
  | some t=>if T∈["bool","int","tuple","list","str","dict"] then .ok (.bl (kOf t T)) S else .bad
  | none=>.bad
 | _=>.bad
theorem kind_ok {K:W.Frag}{H:Hp}{μ:List Addr}{S:zA2}{x:D}{v:V}{t:String} (sr:SR K μ S H) (e:zOi S x=some t) (r:RV K H μ x v):Ty2 K H v t∧t∈["NoneType","bool","int","str","tuple","list","dict"]:=by
 cases x with
 | non=>cases e; subst r; exact ⟨.non,by decide⟩
 | bl b=>cases e; subst r; exact ⟨.bl b,by decide⟩
 | int i=>cases e; subst r; exact ⟨.int i,by decide⟩
 | str i=>cases e; subst r; exact ⟨.str i,by decide⟩
 | tup xs=>cases e; obtain ⟨p,vs,rfl,q,_⟩:=r; exact ⟨.tup (SqT.of q),by decide⟩
 | lst n =>
  have e:(if (zA9 S n).isSome then some "list" else none)=some t:=e
  split at e
  ·rename_i hs
   cases e
   obtain ⟨xs,hx⟩:=Option.isSome_iff_exists.mp hs
   obtain ⟨a,rfl,hm⟩:=r
   obtain ⟨vs,q,_⟩:=sr.sq hm hx
   exact ⟨.lst q,by decide⟩
  ·cases e
 | dct n =>
  have e:dictK S n=some t:=e
  unfold dictK at e
  split at e
  ·rename_i kvs ho
   cases e
   obtain ⟨a,rfl,hm⟩:=r
   obtain ⟨ws,hw,_⟩:=sr.get hm ho
   exact ⟨.dk hw,by decide⟩
  ·cases e
 | ty n=>cases e
 | rol n=>cases e
 | xc _=>cases e
 | ob _=>cases e
 | ktp _=>cases e
theorem cs_inst:zBX X.K (cAny X (.builtin "isinstance")) zAG:=by
 intro xs S d S' H μ vs Q e sr rx h
 unfold zAG at e
 split at e
 ·rename_i x T
  split at e
  ·rename_i t e1
   split at e
   ·rename_i hT
    cases e
    obtain ⟨v,u,rfl,r1,r2⟩:=rx.two
    subst r2
    obtain ⟨k1,k2⟩:=kind_ok sr e1 r1
    exact ⟨_,zHm,v,t,T,_,rfl,k1,zOh X.K t k2 T hT,h.self sr zBE⟩
   ·cases e
  ·cases e
 ·cases e
noncomputable def zEw:List D→Option (List Bool)
 | []=>some []
 | .bl b::r=>(zEw r).map (b::·)
 | _::_=>none
theorem zFC {K:W.Frag}{H:Hp}{μ:List Addr}:∀ {ds:List D}{ns:List Bool}{vs:List V},zEw ds=some ns→RVs K H μ ds vs→vs=ns.map V.bl
 | [],ns,vs,e,r=>by cases e; rw [r.nil_inv]; rfl
 | .bl i::ds,ns,vs,e,r=>by
  obtain ⟨v,ws,rfl,r1,r2⟩:=r.cons_inv
  unfold zEw at e
  cases q:zEw ds with
  | none=>rw [q] at e; cases e
  | some ms =>
   rw [q] at e; cases e
   subst r1
   rw [zFC q r2]; rfl
 | .non::ds,ns,vs,e,r=>by cases e
 | .int _::ds,ns,vs,e,r=>by cases e
 | .str _::ds,ns,vs,e,r=>by cases e
 | .ty _::ds,ns,vs,e,r=>by cases e
 | .tup _::ds,ns,vs,e,r=>by cases e
 | .lst _::ds,ns,vs,e,r=>by cases e
 | .dct _::ds,ns,vs,e,r=>by cases e
 | .rol _::ds,ns,vs,e,r=>by cases e
 | .xc _::ds,ns,vs,e,r=>by cases e
 | .ob _::ds,ns,vs,e,r=>by cases e
 | .ktp _::ds,ns,vs,e,r=>by cases e
noncomputable def zCc (g:List Bool→Bool):List D→M D:=fun xs S=>match xs with
 | [.tup ys]=>match zDw ys with
  | some ns=>.ok (.bl (g (ns.map (· != 0)))) S
  | none=>.bad
 | [.lst n]=>match (zA9 S n).bind zEw with
  | some bs=>.ok (.bl (g bs)) S
  | none=>.bad
 | _=>.bad
theorem zJi {id:String}{g:List Bool→Bool} (hr:zAw X (.builtin id) (fun vs H Q=>∃ (p:Addr) (bs:List Bool),vs=[.ref p]∧SqL X.K H p (bs.map V.bl)∧Q (.bl (g bs)) H)) (hr2:zAw X (.builtin id) (fun vs H Q=>∃ (p:Addr) (ns:List Int),vs=[.ref p]∧SqT X.K H p (ns.map V.int)∧Q (.bl (g (ns.map (· != 0)))) H)):zBX X.K (cAny X (.builtin id)) (zCc g):=by
 intro xs S d S' H μ vs Q e sr rx h
 unfold zCc at e
 split at e
 ·split at e
  ·rename_i ns e1
   cases e
   obtain ⟨v,rfl,r⟩:=rx.one
   obtain ⟨a,ws,rfl,q,rr⟩:=r
   have z:=zC9 e1 rr
   subst z
   exact ⟨_,hr2,a,ns,rfl,SqT.of q,h.self sr zBE⟩
  ·cases e
 ·split at e
  ·rename_i bs e1
   cases e
   obtain ⟨ys,e2,e3⟩:=Option.bind_eq_some_iff.mp e1
   obtain ⟨v,rfl,r⟩:=rx.one
   obtain ⟨a,rfl,hm⟩:=r
   obtain ⟨ws,q,rr⟩:=sr.sq hm e2
   have z:=zFC e3 rr
   subst z
   exact ⟨_,hr,a,bs,rfl,q,h.self sr zBE⟩
  ·cases e
 ·cases e
theorem zAw.imp {f:Value}{r r':List V→Hp→VK→Prop} (h:zAw X f r) (w:∀ vs H Q,r' vs H Q→r vs H Q):zAw X f r':=fun pins s σ H xs us Q I rv q=>h pins s σ H xs us Q I rv (w _ _ _ q)
theorem cs_all (hc:X.calm=true):zBX X.K (cAny X (.builtin "all")) (zCc fun bs=>bs.all id):=zJi (zMF hc) ((zME hc).imp fun vs H Q ⟨p,ns,h1,h2,h3⟩=>⟨p,ns,h1,h2,by rw [List.all_map] at h3; exact h3⟩)
theorem cs_any (hc:X.calm=true):zBX X.K (cAny X (.builtin "any")) (zCc fun bs=>bs.any id):=zJi (zMD hc) ((zMC hc).imp fun vs H Q ⟨p,ns,h1,h2,h3⟩=>⟨p,ns,h1,h2,by rw [List.any_map] at h3; exact h3⟩)
noncomputable def insI (a:Int):List Int→List Int
 | []=>[a]
 | b::r=>if a≤b then a::b::r else b::insI a r
noncomputable def zLC:List Int→List Int
 | []=>[]
 | a::r=>insI a (zLC r)
theorem zEe (a:Int):∀ l,(insI a l).Perm (a::l)
 | []=>.refl _
 | b::r=>by
  unfold insI
  split
  ·exact .refl _
  ·exact ((zEe a r).cons b).trans (.swap _ _ _)
theorem zFs:∀ l,(zLC l).Perm l
 | []=>.refl _
 | a::r=>(zEe a _).trans ((zFs r).cons a)
theorem zEd (a:Int):∀ l:List Int,l.Pairwise (·≤·)→(insI a l).Pairwise (·≤·)
 | [],_=>by simp [insI]
 | b::r,h=>by
  have h':=List.pairwise_cons.mp h
  unfold insI
  split
  ·rename_i hab
   refine List.pairwise_cons.mpr ⟨fun c hc=>?_,h⟩
   rcases List.mem_cons.mp hc with rfl | hc
   ·exact hab
   ·exact Int.le_trans hab (h'.1 c hc)
  ·rename_i hab
   refine List.pairwise_cons.mpr ⟨fun c hc=>?_,zEd a r h'.2⟩
   rcases List.mem_cons.mp ((zEe a r).mem_iff.mp hc) with rfl | hc
   ·lia
   ·exact h'.1 c hc
theorem zDu:∀ l:List Int,(zLC l).Pairwise (·≤·)
 | []=>.nil
 | a::r=>zEd a _ (zDu r)
theorem zOo {l m:List Int} (h:m.Perm l) (s:m.Pairwise (·≤·)):m=zLC l :=
 (h.trans (zFs l).symm).eq_of_pairwise (fun a b _ _ h1 h2=>Int.le_antisymm h1 h2) s (zDu l)
noncomputable def zOF:List D→M D:=fun xs S=>match xs with
 | [x]=>match zJz S x with
  | some ys=>.ok (.lst S.length) (S++[.lst ys])
  | none=>.bad
 | _=>.bad
theorem cs_list (hc:X.calm=true):zBX X.K (cAny X (.type "list")) zOF:=by
 intro xs S d S' H μ vs Q e sr rx h
 unfold zOF at e
 split at e
 ·split at e
  ·rename_i ys e1
   cases e
   obtain ⟨v,rfl,r⟩:=rx.one
   obtain ⟨a,vs,rfl,hq,rr⟩:=sr.seq r e1
   exact ⟨_,zHj,a,vs,rfl,hq,fun l hl=>h.newL sr hl rr⟩
  ·cases e
 ·cases e
noncomputable def zId:List D→M D:=fun xs S=>match xs with
 | [.lst n]=>match (zA9 S n).bind zDw with
  | some ns=>if ns.length<64 then .ok (.lst S.length) (S++[.lst ((zLC ns).map D.int)]) else .bad
  | none=>.bad
 | _=>.bad
theorem zMg (hc:X.calm=true) (hu:X.A.units+64<cLine):zBX X.K (cAny X (.builtin "sorted")) zId:=by
 intro xs S d S' H μ vs Q e sr rx h
 unfold zId at e
 split at e
 ·split at e
  ·rename_i ns e1
   split at e
   ·rename_i hl
    cases e
    obtain ⟨ys,e2,e3⟩:=Option.bind_eq_some_iff.mp e1
    obtain ⟨v,rfl,r⟩:=rx.one
    obtain ⟨a,rfl,hm⟩:=r
    obtain ⟨ws,q,rr⟩:=sr.sq hm e2
    have z:=zC9 e3 rr
    subst z
    refine ⟨_,zHi,a,ns,rfl,q,hl,fun l ms hl hp hs=>?_⟩
    rw [zOo hp hs]
    exact h.newL sr hl RVs.ints
   ·cases e
  ·cases e
 ·cases e
def MtS (K:W.Frag) (T:String) (r:V→List V→Hp→VK→Prop) (o:D→List D→M D):Prop:=∀ x xs S d S' H μ v vs Q,o x xs S=.ok d S'→SR K μ S H→RV K H μ x v→RVs K H μ xs vs→Yld K μ H d S' Q→r v vs H Q
noncomputable def tyOk (T:String) (x:D) (S:zA2):Bool:=match x with
 | .lst n=>decide (T = "list")&&(zA9 S n).isSome
 | .dct n=>decide (T = "dict")&&(match S[n]? with | some (.dk _)=>true | some (.dt _)=>true | _=>false)
 | .int _=>decide (T = "int")
 | .str _=>decide (T = "str")
 | _=>false
theorem tyOk_v {K:W.Frag}{H:Hp}{μ:List Addr}{S:zA2}{T:String}{x:D}{v:V} (sr:SR K μ S H) (h:tyOk T x S=true) (r:RV K H μ x v):tyV K T v H:=by
 unfold tyOk at h
 split at h
 ·simp only [Bool.and_eq_true,decide_eq_true_eq] at h
  obtain ⟨h1,h2⟩:=h
  obtain ⟨xs,hx⟩:=Option.isSome_iff_exists.mp h2
  obtain ⟨a,rfl,hm⟩:=r
  obtain ⟨vs,q,_⟩:=sr.sq hm hx
  exact .inl ⟨h1,vs,q⟩
 ·simp only [Bool.and_eq_true,decide_eq_true_eq] at h
  obtain ⟨h1,h2⟩:=h
  obtain ⟨a,rfl,hm⟩:=r
  split at h2
  ·rename_i kvs ho
   obtain ⟨ws,q,_⟩:=sr.get hm ho
   exact .inr (.inr (.inl ⟨h1,.inl ⟨ws,q⟩⟩))
  ·rename_i kvs ho
   obtain ⟨ws,q,_⟩:=sr.get hm ho
   exact .inr (.inr (.inl ⟨h1,.inr ⟨ws,q⟩⟩))
  ·cases h2
 ·subst r
  exact (of_decide_eq_true h:T = "int")
 ·subst r
  exact (of_decide_eq_true h:T = "str")
 ·cases h
noncomputable def zBq (T:String) (o:D→List D→M D) (a:C) (as:CA):C:=fun ρ=>bnd (a ρ) fun x S=>if tyOk T x S then bnd (as ρ) (fun xs=>o x xs) S else .bad
variable {o e:Expr}{es:List Expr}{co:C}{ca:CA}{name:Str}{apos cpos:Pos}{T id:String}{m:D→List D→M D}
theorem zBO (pa:PlainAttrs T) (slot:Slot T name id) (hty:typeOf (.builtin id)=pure (.type "method_descriptor")) (hm:MtS X.K T (zBF X id) m) (ho:PE X o (tOf X.K co)) (ha:PA X (e::es) (tOfA X.K ca))
  (hbase:attributeBase o name X.env (eval o X.env)=eval o X.env)
  (hfew:((backTo cpos (starEach (e::es) X.env)).all (fun x=>!x.1)&&(backToKw cpos (keywordEach [] X.env)).all (fun x=>x.1.isSome)
   && decide ((e::es).length+([]:List Keyword).length+(if ([]:List Keyword).isEmpty then 0 else 1)<30))=true)
  (hline:(apos.endLine == cpos.line)=true) (hs:starEach (e::es) X.env=(false,eval e X.env)::starEach es X.env) (hplain:(backTo cpos (starEach es X.env)).any (·.1)=false) :
  PE X (.Call (.Attribute o name apos) (e::es) [] cpos) (tOf X.K (zBq T m co ca)):=(pe_bm pa slot hty mtAny ho ha hbase hfew hline hs hplain).weak (by
 rintro σ H Q ⟨μ,ρ,S,d,S',sr,re,e,y⟩
 obtain ⟨x,S1,e1,e⟩:=zA7 e
 split at e
 ·rename_i hk
  obtain ⟨xs,S2,e2,e⟩:=zA7 e
  refine ⟨μ,ρ,S,x,S1,sr,re,e1,fun v H1 μ1 sr1 st1 r1=>⟨tyOk_v sr1 hk r1,μ1,ρ,S1,xs,S2,sr1,re.up st1,e2,fun vs H2 μ2 sr2 st2 r2=>?_⟩⟩
  exact hm x xs S2 d S' H2 μ2 v vs Q e sr2 (RV.up st2.tk st2.ext _ _ r1) r2 (y.shift (st1.trans st2 sr2.nd))
 ·cases e)
noncomputable def zE2 (g:List D→List D→Option (List D × D)):D→List D→M D:=fun x xs S=>match x with
 | .lst n=>match S[n]? with
  | some (.lst ys)=>match g ys xs with
   | some (zs,d)=>.ok d (S.set n (.lst zs))
   | none=>.bad
  | _=>.bad
 | _=>.bad
theorem SR.putL {K:W.Frag}{H:Hp}{μ:List Addr}{S:zA2}{n:Nat}{p:Addr}{vs ws:List V}{zs:List D} (sr:SR K μ S H) (hn:μ[n]?=some p) (hp:H p=some (.lst vs)) (r:RVs K H μ zs ws):SR K μ (S.set n (.lst zs)) (upd H p (.lst ws))∧Step K μ μ H (upd H p (.lst ws)) :=
 sr.put hn hp (fun _ z=>by cases z) (fun _ _ z=>by cases z) ⟨ws,zA4,RVs.up (zGp hp) ⟨[],by simp⟩ _ _ r⟩
theorem zHX {g:List D→List D→Option (List D × D)}
  (h:∀ (K:W.Frag) H μ ys xs zs d vs us,g ys xs=some (zs,d)→RVs K H μ ys vs→RVs K H μ xs us→∃ ws w,RVs K H μ zs ws∧RV K H μ d w∧∀ (p:Addr) (Q:VK),H p=some (.lst vs)→Q w (upd H p (.lst ws))→zBF X id (.ref p) us H Q):MtS X.K "list" (zBF X id) (zE2 g):=by
 intro x xs S d S' H μ v us Q e sr rx rs y
 unfold zE2 at e
 split at e
 ·rename_i n
  split at e
  ·rename_i ys ho
   split at e
   ·rename_i zs d' hg
    cases e
    obtain ⟨p,rfl,hm⟩:=rx
    obtain ⟨vs,hp,rr⟩:=sr.lst hm ho
    obtain ⟨ws,w,r1,r2,fin⟩:=h X.K H μ ys xs zs d vs us hg rr rs
    obtain ⟨s1,s2⟩:=sr.putL hm hp r1
    exact fin p Q hp (y w _ μ s1 s2 (RV.up s2.tk s2.ext _ _ r2))
   ·cases e
  ·cases e
 ·cases e
noncomputable def zDa:List D→List D→Option (List D × D):=fun ys xs=>match xs with
 | [x]=>if ys.length<lim then some (ys++[x],.non) else none
 | _=>none
theorem zLq:MtS X.K "list" (zBF X "list.append") (zE2 zDa):=zHX fun K H μ ys xs zs d vs us e r1 r2=>by
 unfold zDa at e
 split at e
 ·split at e
  ·rename_i hl; cases e
   obtain ⟨v,rfl,r3⟩:=r2.one
   exact ⟨vs++[v],.non,r1.append (.cons r3 .nil),zCq,fun p Q hp q=>⟨_,zE1,p,vs,v,rfl,rfl,hp,by rw [← r1.len]; exact zJ4 hl,q⟩⟩
  ·cases e
 ·cases e
noncomputable def zFW:List D→List D→Option (List D × D):=fun ys xs=>match xs with
 | [.int i,x]=>if ys.length<1000∧0≤i∧i.toNat≤ys.length then some (ys.take i.toNat++x::ys.drop i.toNat,.non) else none
 | _=>none
theorem zLp:MtS X.K "list" (zBF X "list.insert") (zE2 zFW):=zHX fun K H μ ys xs zs d vs us e r1 r2=>by
 unfold zFW at e
 split at e
 ·rename_i i x
  split at e
  ·rename_i hl; cases e
   obtain ⟨h1,h2,h3⟩:=hl
   obtain ⟨v,u,rfl,r3,r4⟩:=r2.two
   subst r3
   have ei:i=(i.toNat:Int):=by lia
   exact ⟨vs.take i.toNat++u::vs.drop i.toNat,.non,(r1.take _).append (.cons r4 (r1.drop _)),zCq,fun p Q hp q=>⟨_,zLn,p,vs,i.toNat,u,rfl,by rw [← ei],hp,by rw [← r1.len]; exact h1,by rw [← r1.len]; exact h3,q⟩⟩
  ·cases e
 ·cases e
theorem RKs.merge {K:W.Frag}{H:Hp}{μ:List Addr}:∀ {more:List (Key × D)}{ws:List (Key × V)}{kvs:List (Key × D)}{us:List (Key × V)},RKs K H μ more ws→RKs K H μ kvs us→RKs K H μ (mrgD kvs more) (zBk us ws)
 | [],ws,kvs,us,h,g=>by
  have:ws=[]:=by have:=h.1; cases ws with | nil=>rfl | cons a b=>simp at this
  subst this; exact g
 | p::more,ws,kvs,us,h,g=>by
  obtain ⟨q,vs,rfl,e1,r1,r2⟩:=h.cons_inv
  show RKs K H μ (mrgD (putD kvs p.1 p.2) more) (zBk (putK us q.1 q.2) vs)
  rw [← e1]
  exact RKs.merge r2 (g.put r1)
noncomputable def dkAt (S:zA2) (n:Nat):Option (List (Key × D)):=match S[n]? with
 | some (.dk kvs)=>some kvs
 | some (.fk kvs)=>some kvs
 | _=>none
theorem dkAt_ok {K:W.Frag}{H:Hp}{μ:List Addr}{S:zA2}{n:Nat}{a:Addr}{kvs:List (Key × D)} (sr:SR K μ S H) (e:dkAt S n=some kvs) (hm:μ[n]?=some a):∃ ws,Rd H a (.dK ws)∧RKs K H μ kvs ws:=by
 unfold dkAt at e
 split at e
 ·rename_i ho
  cases e
  obtain ⟨ws,hw,rr⟩:=sr.get hm ho
  exact ⟨ws,.inl hw,rr⟩
 ·rename_i ho
  cases e
  obtain ⟨o,ws,hw,rr⟩:=sr.get hm ho
  exact ⟨ws,.inr ⟨o,hw⟩,rr⟩
 ·cases e
noncomputable def mUpd:D→List D→M D:=fun x xs S=>match x,xs with
 | .dct n,[.dct m]=>match S[n]?,dkAt S m with
  | some (.dk kvs),some more=>if n≠m∧kvs.length+more.length≤lim then .ok .non (S.set n (.dk (mrgD kvs more))) else .bad
  | _,_=>.bad
 | _,_=>.bad
theorem ms_upd:MtS X.K "dict" (zBF X "dict.update") mUpd:=by
 intro x xs S d S' H μ v us Q e sr rx rs y
 unfold mUpd at e
 split at e
 ·rename_i n m
  split at e
  ·rename_i kvs more ho hk
   split at e
   ·rename_i hl
    cases e
    obtain ⟨a,rfl,hm⟩:=rx
    obtain ⟨u,rfl,r2⟩:=rs.one
    obtain ⟨b,rfl,hb⟩:=r2
    obtain ⟨ws,hw,rr⟩:=sr.get hm ho
    obtain ⟨ms,hw2,rr2⟩:=dkAt_ok sr hk hb
    have hab:a≠b:=fun z=>by
     subst z
     exact hl.1 ((List.getElem?_inj (List.getElem?_eq_some_iff.mp hm).1 sr.nd).mp (hm.trans hb.symm))
    have tk:TF X.K H (upd H a (.dK (zBk ws ms))):=zFb hw (fun _ z=>by cases z) (fun _ _ z=>by cases z)
    obtain ⟨s1,s2⟩:=sr.put (o':=.dk (mrgD kvs more)) hm hw (fun _ z=>by cases z) (fun _ _ z=>by cases z) ⟨_,zA4,(rr2.merge rr).up tk ⟨[],by simp⟩⟩
    exact ⟨_,zLl,a,b,ws,ms,rfl,rfl,hab,hw,hw2,by rw [← rr.len,← rr2.len]; exact zBc hl.2,y _ _ μ s1 s2 zCq⟩
   ·cases e
  ·cases e
 ·cases e
noncomputable def prsD:List D→Option (List (Key × D))
 | []=>some []
 | .tup [k,v]::r=>match zFT k,prsD r with
  | some q,some ps=>some ((q,v)::ps)
  | _,_=>none
 | _=>none
theorem zKY {K:W.Frag}{H:Hp}{μ:List Addr}:∀ {ds:List D}{ps:List (Key × D)}{vs:List V},prsD ds=some ps→RVs K H μ ds vs→∃ qs,Prs H vs qs∧RKs K H μ ps qs
 | [],ps,vs,e,r=>by cases e; rw [r.nil_inv]; exact ⟨[],.nil,.nil⟩
 | d::ds,ps,vs,e,r=>by
  obtain ⟨v,ws,rfl,r1,r2⟩:=r.cons_inv
  unfold prsD at e
  split at e
  ·rename_i q; cases q
  ·rename_i k x r' q
   cases q
   split at e
   ·rename_i q ps' e1 e2
    cases e
    obtain ⟨qs,a,b⟩:=zKY e2 r2
    obtain ⟨p,us,rfl,hp,ru⟩:=r1
    obtain ⟨u1,u2,rfl,t1,t2⟩:=ru.two
    rw [zE9 e1 t1] at hp
    exact ⟨(q,u2)::qs,.cons ⟨p,rfl,hp⟩ a,RKs.cons t2 b⟩
   ·cases e
  ·cases e
noncomputable def fDict:List D→M D:=fun xs S=>match xs with
 | [.lst n]=>match S[n]? with
  | some (.lst ys)=>match prsD ys with
   | some ps=>if ys.length≤lim then .ok (.dct S.length) (S++[.dk (mrgD [] ps)]) else .bad
   | none=>.bad
  | _=>.bad
 | _=>.bad
theorem cs_dict (hc:X.calm=true):zBX X.K (cAny X (.type "dict")) fDict:=by
 intro xs S d S' H μ vs Q e sr rx h
 unfold fDict at e
 split at e
 ·split at e
  ·rename_i ys e1
   split at e
   ·rename_i ps e2
    split at e
    ·rename_i hl
     cases e
     obtain ⟨v,rfl,r⟩:=rx.one
     obtain ⟨a,rfl,hm⟩:=r
     obtain ⟨us,hu,ru⟩:=sr.get hm e1
     obtain ⟨qs,hq,rq⟩:=zKY e2 ru
     refine ⟨_,zK2 hc,a,us,qs,rfl,hu,hq,by rw [← ru.len]; exact zBc hl,fun p hp=>?_⟩
     obtain ⟨s1,s2⟩:=sr.push (o':=.dk (mrgD [] ps)) hp ⟨_,zA4,(rq.merge RKs.nil).up (zDO hp) ⟨[p],rfl⟩⟩
     exact h _ _ _ s1 s2 (by exact ⟨p,rfl,by rw [← sr.len,List.getElem?_append_right (Nat.le_refl _)]; simp⟩)
    ·cases e
   ·cases e
  ·cases e
 ·cases e
noncomputable def oSet:D→D→D→zA2→Option zA2:=fun x i v S=>match x with
 | .lst n=>match S[n]?,i with
  | some (.lst ys),.int k=>match ixN ys.length k with
   | some j=>some (S.set n (.lst (ys.set j v)))
   | none=>none
  | _,_=>none
 | .dct n=>match S[n]?,zFT i with
  | some (.dk kvs),some k=>if kvs.length<lim then some (S.set n (.dk (putD kvs k v))) else none
  | _,_=>none
 | _=>none
theorem zNj (hu:X.A.units+1<cLine):PSet X (fun o i v H Q=>∃ a H4,o=.ref a∧DPut H a i v H4∧Q H4):=by
 intro pins s σ H o i v ov iv u Q I ro ri rv h
 obtain ⟨a,H4,rfl,g,q⟩:=h
 obtain rfl:ov=Value.ref a:=ro
 exact zMc hu I g ri rv fun s4 I4=>⟨H4,I4,q⟩
theorem zQr (hu:X.A.units+1<cLine) {x i v:D}{S S':zA2}{H:Hp}{μ:List Addr}{ov iv vv:V}{Q:Hp→Prop} (e:oSet x i v S=some S') (sr:SR X.K μ S H) (rx:RV X.K H μ x ov) (ri:RV X.K H μ i iv) (rv:RV X.K H μ v vv) (y:∀ H' ,SR X.K μ S' H'→Step X.K μ μ H H'→Q H'):zKH X ov iv vv H Q:=by
 unfold oSet at e
 split at e
 ·split at e
  ·rename_i ys k ho
   split at e
   ·rename_i j hj
    cases e
    unfold RV at rx ri; obtain ⟨p,rfl,hm⟩:=rx; subst ri
    obtain ⟨vs,hp,rr⟩:=sr.lst hm ho
    obtain ⟨s1,s2⟩:=sr.putL hm hp (rr.set rv j)
    exact ⟨_,zNi,p,vs,k,j,rfl,rfl,hp,by rw [← rr.len]; exact hj,y _ s1 s2⟩
   ·cases e
  ·cases e
 ·split at e
  ·rename_i kvs k ho hk
   split at e
   ·rename_i hl
    cases e
    unfold RV at rx; obtain ⟨p,rfl,hm⟩:=rx
    obtain ⟨ws,hp,rr⟩:=sr.get hm ho
    have z:=zE9 hk ri
    subst z
    have tk:TF X.K H (upd H p (.dK (putK ws k vv))):=zFb hp (fun _ z=>by cases z) (fun _ _ z=>by cases z)
    obtain ⟨s1,s2⟩:=sr.put (o:=.dK (putK ws k vv)) (o':=.dk (putD kvs k v)) hm hp (fun _ z=>by cases z) (fun _ _ z=>by cases z) ⟨_,zA4,(rr.put rv).up tk ⟨[],by simp⟩⟩
    exact ⟨_,zNj hu,p,_,rfl,DPut.k hp (by rw [← rr.len]; exact zJ4 hl),y _ s1 s2⟩
   ·cases e
  ·cases e
 ·cases e
end
open PySem PySem.Spec PyProof.Rows
inductive RS where
 | bad | nx (ρ:Env1) (S:zA2) | rt (d:D) (S:zA2) | bk (ρ:Env1) (S:zA2) | ct (ρ:Env1) (S:zA2) | er (c:Str) (S:zA2)
noncomputable abbrev CS:=Env1→zA2→RS
noncomputable def EX (X:Cx):XK:=fun C _ H'=>(∀ (pins:List (Addr × Obj)) (σ:St) (H:Hp) (s:Shared) (e T:Addr) (s':Shared),Inv X pins σ H s→Trc s'.heap e T C→s.heap.get? e=none→s.heap.get? T=none→s'.os=s.os→AllBare s'.gens→Un (frs X.stack) [] H H' s.heap s'.heap→HOk X.prog X.w H' s'.heap→H' e=none→H' T=none→X.xe (.ref e) s') ∧
 (∀ (pins:List (Addr × Obj)) (σ:St) (s:Shared) (h':Heap) (e D:Addr) (vs:List Value),C=.ref D→Inv X pins σ H' s→Heap.MadeExcOf s.heap h' e (.ref D) vs→X.xe (.ref e) { s with heap:=h' }) ∧
 ∀ (pins:List (Addr × Obj)) (σ:St) (H:Hp) (s:Shared) (e T:Addr) (s':Shared) (ch:List Addr),Inv X pins σ H s→TrcA s'.heap e T C→(e∈ch∨s.heap.get? e=none)→(T∈ch∨s.heap.get? T=none)→s'.os=s.os→AllBare s'.gens→Un (frs X.stack) ch H H' s.heap s'.heap→ChOk X pins ch→HOk X.prog X.w H' s'.heap→H' e=none→H' T=none→X.xe (.ref e) s'
theorem zCd {X:Cx}:zB1 (CX1 X.prog X.w) X (EX X):=by
 intro pins σ H s ev s' I h
 obtain ⟨e,T,C,H',rfl,tr,ne,nT,os,bare,un,hok,he,hT,hE⟩:=h
 exact hE.1 pins σ H s e T s' I tr ne nT os bare un hok he hT
theorem ex_new {X:Cx}:zIF X (EX X):=fun pins σ H s h' e C vs I mk hE=>hE.2.1 pins σ s h' e C vs rfl I mk
theorem zM3 {X:Cx}{E:XK} (o:Own1 X E) {C:Value}{H':Hp} (h:E C none H'):EX X C none H':=by
 refine ⟨fun pins σ H s e T s' I tr ne nT os bare un hok he hT=>zJE o pins σ H s _ s' I ⟨e,T,C,H',rfl,tr,ne,nT,os,bare,un,hok,he,hT,h⟩,fun pins σ s h' e D vs eq I mk=>?_,fun pins σ H s e T s' ch I tr ne nT os bare un hc hok he hT=>zQG o I tr ne nT os bare un hc hok he hT h⟩
 subst eq
 exact zQF o pins σ H' s h' e D vs I mk h
def YldE (X:Cx) (μ:List Addr) (H:Hp) (c:Str) (S':zA2):Prop:=∀ H' μ',SR X.K μ' S' H'→Step X.K μ μ' H H'→∀ C,X.mg c=some (.ref C)→EX X (.ref C) none H'
theorem YldE.shift {X:Cx}{μ μ1:List Addr}{H H1:Hp}{c:Str}{S':zA2} (h:YldE X μ H c S') (st:Step X.K μ μ1 H H1):YldE X μ1 H1 c S':=fun H' μ' sr s2=>h H' μ' sr (st.trans s2 sr.nd)
noncomputable def zF8 (X:Cx) (μ:List Addr) (H:Hp) (E:Ends):RS→Prop
 | .bad=>False
 | .er c S'=>YldE X μ H c S'
 | .nx ρ' S'=>∀ σ' H' μ',SR X.K μ' S' H'→Step X.K μ μ' H H'→RE X.K H' μ' ρ' σ'→E.nx σ' H'
 | .bk ρ' S'=>∀ σ' H' μ',SR X.K μ' S' H'→Step X.K μ μ' H H'→RE X.K H' μ' ρ' σ'→E.bk σ' H'
 | .ct ρ' S'=>∀ σ' H' μ',SR X.K μ' S' H'→Step X.K μ μ' H H'→RE X.K H' μ' ρ' σ'→E.ct σ' H'
 | .rt d S'=>Yld X.K μ H d S' E.rt
inductive tOfS (X:Cx) (c:CS) (E:Ends) (σ:St) (H:Hp):Prop
 | mk (μ:List Addr) (ρ:Env1) (S:zA2) (sr:SR X.K μ S H) (re:RE X.K H μ ρ σ) (y:zF8 X μ H E (c ρ S))
theorem zF8.shift {X:Cx}{μ μ1:List Addr}{H H1:Hp}{E:Ends}{r:RS} (h:zF8 X μ H E r) (st:Step X.K μ μ1 H H1):zF8 X μ1 H1 E r:=by
 cases r with
 | bad=>exact h
 | er _ _=>exact YldE.shift h st
 | nx ρ S=>exact fun σ' H' μ' sr s2 re=>h σ' H' μ' sr (st.trans s2 sr.nd) re
 | bk ρ S=>exact fun σ' H' μ' sr s2 re=>h σ' H' μ' sr (st.trans s2 sr.nd) re
 | ct ρ S=>exact fun σ' H' μ' sr s2 re=>h σ' H' μ' sr (st.trans s2 sr.nd) re
 | rt d S=>exact Yld.shift h st
noncomputable def zA3:CS:=fun ρ S=>.nx ρ S
noncomputable def sBrk:CS:=fun ρ S=>.bk ρ S
noncomputable def sCnt:CS:=fun ρ S=>.ct ρ S
noncomputable def sBad:CS:=fun _ _=>.bad
noncomputable def zQc:CS:=fun _ S=>.rt .non S
noncomputable def sRet (c:C):CS:=fun ρ S=>match c ρ S with
 | .ok d S'=>.rt d S'
 | .bad=>.bad
 | .er _ _=>.bad
noncomputable def zGB (c:C):CS:=fun ρ S=>match c ρ S with
 | .ok _ S'=>.nx ρ S'
 | .bad=>.bad
 | .er _ _=>.bad
noncomputable def sSeq (a b:CS):CS:=fun ρ S=>match a ρ S with
 | .nx ρ' S'=>b ρ' S'
 | r=>r
noncomputable def sIf (t:CT) (a b:CS):CS:=fun ρ S=>match t ρ S with
 | .ok k S'=>if k then a ρ S' else b ρ S'
 | .bad=>.bad
 | .er _ _=>.bad
noncomputable abbrev G:=D→Env1→M Env1
noncomputable def sAsg (c:C) (g:G):CS:=fun ρ S=>match c ρ S with
 | .ok d S'=>match g d ρ S' with
  | .ok ρ' S2=>.nx ρ' S2
  | .bad=>.bad
  | .er _ _=>.bad
 | .bad=>.bad
 | .er _ _=>.bad
section
variable {X:Cx}{e a b tg:Expr}{ce ca cb:C}{pos:Pos}
theorem zPO:PS X (.Pass pos) (tOfS X zA3):=zQt.weak fun E σ H ⟨μ,ρ,S,sr,re,p⟩=>p σ H μ sr (Step.refl _ _ _) re
theorem ss_brk:PS X (.Break pos) (tOfS X sBrk):=zND.weak fun E σ H ⟨μ,ρ,S,sr,re,p⟩=>p σ H μ sr (Step.refl _ _ _) re
theorem ss_cnt:PS X (.Continue pos) (tOfS X sCnt):=zHO.weak fun E σ H ⟨μ,ρ,S,sr,re,p⟩=>p σ H μ sr (Step.refl _ _ _) re
theorem zP4 {st:Stmt}:PS X st (tOfS X sBad):=zNC.weak fun E σ H ⟨μ,ρ,S,sr,re,p⟩=>p
theorem zPN:PS X (.Return none pos) (tOfS X zQc):=zQs.weak fun E σ H ⟨μ,ρ,S,sr,re,p⟩=>p _ H μ sr (Step.refl _ _ _) zCq
theorem ss_ret (he:PE X e (tOf X.K ce)):PS X (.Return (some e) pos) (tOfS X (sRet ce)):=(zKW he).weak (by
 rintro E σ H ⟨μ,ρ,S,sr,re,p⟩
 unfold sRet at p
 split at p
 ·rename_i d S' h
  exact ⟨μ,ρ,S,d,S',sr,re,h,p⟩
 ·exact False.elim p
 ·exact False.elim p)
theorem zPP (he:PE X e (tOf X.K ce)) (hs:swapsWith e none pos.line X.env=pure false):PS X (.Expr e pos) (tOfS X (zGB ce)):=(zKX he hs).weak (by
 rintro E σ H ⟨μ,ρ,S,sr,re,p⟩
 unfold zGB at p
 split at p
 ·rename_i d S' h
  exact ⟨μ,ρ,S,d,S',sr,re,h,fun v H1 μ1 sr1 st1 r1=>p σ H1 μ1 sr1 st1 (re.up st1)⟩
 ·exact False.elim p
 ·exact False.elim p)
theorem zPL:PSs X [] (tOfS X zA3):=zFL.weak fun E σ H ⟨μ,ρ,S,sr,re,p⟩=>p σ H μ sr (Step.refl _ _ _) re
theorem zIN {st:Stmt}{rest:List Stmt}{c1 c2:CS} (h1:PS X st (tOfS X c1)) (h2:PSs X rest (tOfS X c2)):PSs X (st::rest) (tOfS X (sSeq c1 c2)):=(zBj h1 h2).weak (by
 rintro E σ H ⟨μ,ρ,S,sr,re,p⟩
 refine ⟨μ,ρ,S,sr,re,?_⟩
 unfold sSeq at p
 revert p
 cases c1 ρ S with
 | nx ρ' S'=>exact fun p σ' H' μ' sr' st' re'=>⟨μ',ρ',S',sr',re',p.shift st'⟩
 | bad=>exact fun p=>p
 | er _ _=>exact fun p=>p
 | rt _ _=>exact fun p=>p
 | bk _ _=>exact fun p=>p
 | ct _ _=>exact fun p=>p)
theorem ss_if {t:Expr}{ct:CT}{as bs:List Stmt}{c1 c2:CS} (ht:PT X t (tOfT X.K ct)) (h1:PSs X as (tOfS X c1)) (h2:PSs X bs (tOfS X c2)):PS X (.If t as bs pos) (tOfS X (sIf ct c1 c2)):=(ps_if ht h1 h2).weak (by
 rintro E σ H ⟨μ,ρ,S,sr,re,p⟩
 unfold sIf at p
 split at p
 ·rename_i k S' h
  refine ⟨μ,ρ,S,k,S',sr,re,h,fun H1 μ1 sr1 st1=>?_⟩
  cases k with
  | true=>rw [if_pos rfl] at p ⊢; exact ⟨μ1,ρ,S',sr1,re.up st1,p.shift st1⟩
  | false=>rw [if_neg Bool.false_ne_true] at p ⊢; exact ⟨μ1,ρ,S',sr1,re.up st1,p.shift st1⟩
 ·exact False.elim p
 ·exact False.elim p)
inductive tOfG (K:W.Frag) (g:G) (v:V) (σ:St) (H:Hp) (Q:St→Hp→Prop):Prop
 | mk (μ:List Addr) (ρ:Env1) (S:zA2) (d:D) (ρ':Env1) (S':zA2) (sr:SR K μ S H) (re:RE K H μ ρ σ) (rv:RV K H μ d v) (e:g d ρ S=.ok ρ' S') (y:∀ σ' H' μ',SR K μ' S' H'→Step K μ μ' H H'→RE K H' μ' ρ' σ'→Q σ' H')
theorem PG.weak {t t':TG} (h:PG X tg t) (w:∀ v σ H Q,t' v σ H Q→t v σ H Q):PG X tg t':=fun pins s σ H v u Q I r q=>h pins s σ H v u Q I r (w v σ H Q q)
noncomputable def gN (i:Nat):G:=fun d ρ S=>.ok (ρ.set i (some d)) S
theorem zPY {i:Nat}{x:Str} (h:PG X (.Name x pos) (zFV i)):PG X (.Name x pos) (tOfG X.K (gN i)):=h.weak (by
 rintro v σ H Q ⟨μ,ρ,S,d,ρ',S',sr,re,rv,e,y⟩
 unfold gN at e; cases e
 exact y _ H μ sr (Step.refl _ _ _) (re.set rv i))
noncomputable def gS (co ci:C):G:=fun d ρ=>bnd (co ρ) fun o=>bnd (ci ρ) fun i S=>match oSet o i d S with
 | some S'=>.ok ρ S'
 | none=>.bad
theorem sg_sub (hu:X.A.units+1<cLine) (ho:PE X a (tOf X.K ca)) (hi:PE X b (tOf X.K cb)) (ha:∀ v,assign (.Subscript a b pos) X.env v=(do
   let ov ← holding [v] (eval a X.env)
   let iv ← holding [v,ov] (eval b X.env)
   standAt pos
   holding [v,ov,iv] (setItem ov iv v)
   release [v,ov,iv] [])):PG X (.Subscript a b pos) (tOfG X.K (gS ca cb)):=(pg_sub ho hi setAny ha).weak (by
 rintro v σ H Q ⟨μ,ρ,S,d,ρ',S',sr,re,rv,e,y⟩
 obtain ⟨x,S1,e1,e⟩:=zA7 e
 obtain ⟨z,S2,e2,e⟩:=zA7 e
 split at e
 ·rename_i S3 e3
  cases e
  refine ⟨μ,ρ,S,x,S1,sr,re,e1,fun ov H1 μ1 sr1 st1 r1=>⟨μ1,ρ,S1,z,S2,sr1,re.up st1,e2,fun iv H2 μ2 sr2 st2 r2=>?_⟩⟩
  have st12:=st1.trans st2 sr2.nd
  refine zQr hu e3 sr2 (RV.up st2.tk st2.ext _ _ r1) r2 (RV.up st12.tk st12.ext _ _ rv) fun H3 sr3 st3=>?_
  exact y σ H3 μ2 sr3 (st12.trans st3 sr3.nd) (re.up (st12.trans st3 sr3.nd))
 ·cases e)
noncomputable def gTs:List G→List D→Env1→M Env1
 | [],[]=>fun ρ=>ret ρ
 | g::gs,d::ds=>fun ρ=>bnd (g d ρ) fun ρ1=>gTs gs ds ρ1
 | _,_=>fun _=>bad
noncomputable def gT (gs:List G):G:=fun d ρ=>match d with
 | .tup xs=>gTs gs xs ρ
 | _=>bad
inductive zKw (K:W.Frag) (gs:List G) (vs:List V) (σ:St) (H:Hp) (Q:St→Hp→Prop):Prop
 | mk (μ:List Addr) (ρ:Env1) (S:zA2) (ds:List D) (ρ':Env1) (S':zA2) (sr:SR K μ S H) (re:RE K H μ ρ σ) (rv:RVs K H μ ds vs) (e:gTs gs ds ρ S=.ok ρ' S') (y:∀ σ' H' μ',SR K μ' S' H'→Step K μ μ' H H'→RE K H' μ' ρ' σ'→Q σ' H')
theorem PGs.weak {es:List Expr}{t t':TGs} (h:PGs X es t) (w:∀ v σ H Q,t' v σ H Q→t v σ H Q):PGs X es t':=fun pins s σ H v u Q I r q=>h pins s σ H v u Q I r (w v σ H Q q)
theorem zPX:PGs X [] (zKw X.K []):=zL2.weak (by
 rintro v σ H Q ⟨μ,ρ,S,ds,ρ',S',sr,re,rv,e,y⟩
 cases ds with
 | nil =>
  obtain ⟨rfl,rfl⟩:=zAd e
  exact ⟨rv.nil_inv,y σ H μ sr (Step.refl _ _ _) re⟩
 | cons d ds=>cases e)
theorem zNh {es:List Expr}{g:G}{gs:List G} (h1:PG X e (tOfG X.K g)) (h2:PGs X es (zKw X.K gs)) (hs:(assignEach (e::es) X.env).map (·.2)=assign e X.env::(assignEach es X.env).map (·.2)):PGs X (e::es) (zKw X.K (g::gs)):=(zIT h1 h2 hs).weak (by
 rintro v σ H Q ⟨μ,ρ,S,ds,ρ',S',sr,re,rv,e,y⟩
 cases ds with
 | nil=>cases e
 | cons d ds =>
  obtain ⟨ρ1,S1,e1,e⟩:=zA7 e
  obtain ⟨u,us,rfl,r1,r2⟩:=rv.cons_inv
  refine ⟨u,us,rfl,μ,ρ,S,d,ρ1,S1,sr,re,r1,e1,fun σ1 H1 μ1 sr1 st1 re1=>?_⟩
  exact ⟨μ1,ρ1,S1,ds,ρ',S',sr1,re1,RVs.up st1.tk st1.ext _ _ r2,e,fun σ2 H2 μ2 sr2 st2 re2=>y σ2 H2 μ2 sr2 (st1.trans st2 sr2.nd) re2⟩)
theorem gTs_len {gs:List G}:∀ {ds:List D}{ρ ρ':Env1}{S S':zA2},gTs gs ds ρ S=.ok ρ' S'→ds.length=gs.length:=by
 induction gs with
 | nil=>intro ds ρ ρ' S S' e; cases ds with | nil=>rfl | cons _ _=>cases e
 | cons g gs ih =>
  intro ds ρ ρ' S S' e
  cases ds with
  | nil=>cases e
  | cons d ds =>
   obtain ⟨ρ1,S1,e1,e⟩:=zA7 e
   rw [List.length_cons,List.length_cons,ih e]
theorem sg_tup {es:List Expr}{k:Nat}{gs:List G} (hc:X.calm=true) (h:PGs X es (zKw X.K gs)) (hn:(assignEach es X.env).length=gs.length) (hst:(assignEach es X.env).findIdx? (·.1)=none):PG X (.Tuple es k pos) (tOfG X.K (gT gs)) :=
 (zPg hc h hn hst).weak (by
 rintro v σ H Q ⟨μ,ρ,S,d,ρ',S',sr,re,rv,e,y⟩
 unfold gT at e
 split at e
 ·rename_i xs
  unfold RV at rv
  obtain ⟨p,vs,rfl,q,rr⟩:=rv
  exact ⟨p,vs,rfl,SqT.of q,by rw [← rr.len]; exact gTs_len e,μ,ρ,S,xs,ρ',S',sr,re,rr,e,y⟩
 ·cases e)
theorem zP5 {g:G} (he:PE X e (tOf X.K ce)) (hg:PG X tg (tOfG X.K g)) (hs:swapsWithSole [tg] e pos.line X.env=pure false) (hw:swappedStores [tg] e X.env=pure none) (h1:(assignEach [tg] X.env).map (·.2)=[assign tg X.env]):PS X (.Assign [tg] e pos) (tOfS X (sAsg ce g)):=(zFk he hg hs hw h1).weak (by
 rintro E σ H ⟨μ,ρ,S,sr,re,p⟩
 unfold sAsg at p
 split at p
 ·rename_i d S' h
  split at p
  ·rename_i ρ' S2 h2
   refine ⟨μ,ρ,S,d,S',sr,re,h,fun v H1 μ1 sr1 st1 r1=>⟨μ1,ρ,S',d,ρ',S2,sr1,re.up st1,r1,h2,fun σ2 H2 μ2 sr2 st2 re2=>?_⟩⟩
   exact p σ2 H2 μ2 sr2 (st1.trans st2 sr2.nd) re2
  ·exact False.elim p
  ·exact False.elim p
 ·exact False.elim p
 ·exact False.elim p)
theorem ss_set {i:Nat}{x:Str}{pos':Pos} (h:PS X (.Assign [.Name x pos'] e pos) (tAsg (tOf X.K ce) (zFV i))):PS X (.Assign [.Name x pos'] e pos) (tOfS X (sAsg ce (gN i))):=h.weak (by
 rintro E σ H ⟨μ,ρ,S,sr,re,p⟩
 unfold sAsg at p
 split at p
 ·rename_i d S' h
  exact ⟨μ,ρ,S,d,S',sr,re,h,fun v H1 μ1 sr1 st1 r1=>p _ H1 μ1 sr1 st1 ((re.up st1).set r1 i)⟩
 ·exact False.elim p
 ·exact False.elim p)
noncomputable def zDr:Nat→CT→CS→CS
 | 0,_,_=>fun _ _=>.bad
 | k+1,t,b=>fun ρ S=>match t ρ S with
  | .ok true S1=>match b ρ S1 with
   | .nx ρ2 S2=>zDr k t b ρ2 S2
   | .ct ρ2 S2=>zDr k t b ρ2 S2
   | .bk ρ2 S2=>.nx ρ2 S2
   | r=>r
  | .ok false S1=>.nx ρ S1
  | .bad=>.bad
  | .er _ _=>.bad
theorem zNe {t:Expr}{ct:CT}{body:List Stmt}{cb:CS} (k:Nat) (hp:PassesOwn (model X.prog X.w) X.A X.env X.xe) (ht:PT X t (tOfT X.K ct)) (hb:PSs X body (tOfS X cb)):PS X (.While t body [] pos) (tOfS X (zDr k ct cb)):=(zNz hp ht hb).weak (by
 rintro E σ0 H0 ⟨μ0,ρ0,S0,sr0,re0,p0⟩
 refine ⟨fun m σ H=>∃ μ ρ S,SR X.K μ S H∧Step X.K μ0 μ H0 H∧RE X.K H μ ρ σ∧zF8 X μ H E (zDr m ct cb ρ S),⟨k,μ0,ρ0,S0,sr0,Step.refl _ _ _,re0,p0⟩,?_⟩
 rintro m σ H ⟨μ,ρ,S,sr,st,re,p⟩
 cases m with
 | zero=>exact False.elim p
 | succ m =>
  unfold zDr at p
  split at p
  ·rename_i S1 h
   refine ⟨μ,ρ,S,true,S1,sr,re,h,fun H1 μ1 sr1 st1=>?_⟩
   refine ⟨fun σ' H'=>∃ μ ρ S,SR X.K μ S H'∧Step X.K μ0 μ H0 H'∧RE X.K H' μ ρ σ'∧zF8 X μ H' E (zDr m ct cb ρ S),fun σ' H' h=>⟨m,Nat.lt_succ_self m,h⟩,μ1,ρ,S1,sr1,re.up st1,?_⟩
   have st01:=st.trans st1 sr1.nd
   revert p
   cases cb ρ S1 with
   | nx ρ2 S2=>exact fun p σ2 H2 μ2 sr2 st2 re2=>⟨μ2,ρ2,S2,sr2,st01.trans st2 sr2.nd,re2,p.shift (st1.trans st2 sr2.nd)⟩
   | ct ρ2 S2=>exact fun p σ2 H2 μ2 sr2 st2 re2=>⟨μ2,ρ2,S2,sr2,st01.trans st2 sr2.nd,re2,p.shift (st1.trans st2 sr2.nd)⟩
   | bk ρ2 S2=>exact fun p σ2 H2 μ2 sr2 st2 re2=>p σ2 H2 μ2 sr2 (st1.trans st2 sr2.nd) re2
   | rt d S2=>exact fun p=>Yld.shift p st1
   | bad=>exact fun p=>p
   | er _ _=>exact fun p=>YldE.shift p st1
  ·rename_i S1 h
   refine ⟨μ,ρ,S,false,S1,sr,re,h,fun H1 μ1 sr1 st1=>?_⟩
   dsimp only
   rw [if_neg Bool.false_ne_true]
   exact p σ H1 μ1 sr1 st1 (re.up st1)
  ·exact False.elim p
  ·exact False.elim p)
noncomputable abbrev zBM:=List (Nat × List D)
def okW (w:zBM) (S:zA2):Prop:=∀ p∈w,zA9 S p.1=some p.2
noncomputable abbrev CI:=Env1→M (List D × zBM)
structure ItOk (K:W.Frag) (J:It) (items:List D) (w:zBM) (μ0:List Addr) (H0:Hp):Prop where
 go:∀ (i:Nat) H μ S,SR K μ S H→Step K μ0 μ H0 H→okW w S→i<items.length→J.go i H
 yld:∀ (i:Nat) H μ S x H',SR K μ S H→Step K μ0 μ H0 H→okW w S→i<items.length→J.yld i H x H'→∃ d,items[i]?=some d∧SR K μ S H'∧Step K μ μ H H'∧RV K H' μ d x
 stop:∀ H μ S,SR K μ S H→Step K μ0 μ H0 H→okW w S→J.stop items.length H
inductive tOfI (K:W.Frag) (it:CI) (σ:St) (H:Hp) (R:It→Hp→Prop):Prop
 | mk (μ:List Addr) (ρ:Env1) (S:zA2) (items:List D) (w:zBM) (S':zA2) (sr:SR K μ S H) (re:RE K H μ ρ σ) (e:it ρ S=.ok (items,w) S') (y:∀ J H' μ',SR K μ' S' H'→Step K μ μ' H H'→ItOk K J items w μ' H'→R J H')
theorem PI.weak {iter:Expr}{t t':TI} (h:PI X tg iter t) (w:∀ σ H R,t' σ H R→t σ H R):PI X tg iter t':=fun pins s σ H R I q=>h pins s σ H R I (w σ H R q)
theorem Step.at {K:W.Frag}{μ μ':List Addr}{H H':Hp} (st:Step K μ μ' H H') {n:Nat}{a:Addr} (h:μ[n]?=some a):μ'[n]?=some a:=by
 obtain ⟨ν,rfl⟩:=st.ext
 rw [List.getElem?_append_left (List.getElem?_eq_some_iff.mp h).1]; exact h
mutual
noncomputable def eqDb:D→D→Bool
 | .non,.non=>true
 | .bl a,.bl b=>a == b
 | .int i,.int j=>i == j
 | .str x,.str y=>decide (x=y)
 | .ty a,.ty b=>a == b
 | .tup xs,.tup ys=>eqDs xs ys
 | .lst n,.lst m=>n == m
 | .dct n,.dct m=>n == m
 | .rol xs,.rol ys=>eqDs xs ys
 | .xc a,.xc b=>decide (a=b)
 | .ob a,.ob b=>a == b
 | .ktp a,.ktp b=>decide (a=b)
 | _,_=>false
noncomputable def eqDs:List D→List D→Bool
 | [],[]=>true
 | x::xs,y::ys=>eqDb x y&&eqDs xs ys
 | _,_=>false
end
mutual
theorem zJe (a b:D):eqDb a b=true↔a=b:=by
 cases a with
 | tup xs=>cases b <;> first | (simp [eqDb]; done) | (rename_i ys; simp [eqDb,eqDs_iff xs ys])
 | rol xs=>cases b <;> first | (simp [eqDb]; done) | (rename_i ys; simp [eqDb,eqDs_iff xs ys])
 | _=>cases b <;> simp [eqDb]
theorem eqDs_iff (a b:List D):eqDs a b=true↔a=b:=by
 cases a with
 | nil=>cases b <;> simp [eqDs]
 | cons x xs=>cases b with
  | nil=>simp [eqDs]
  | cons y ys=>simp [eqDs,zJe x y,eqDs_iff xs ys]
end
noncomputable instance:DecidableEq D:=fun a b=>decidable_of_iff _ (zJe a b)
noncomputable instance (w:zBM) (S:zA2):Decidable (okW w S):=inferInstanceAs (Decidable (∀ p∈w,zA9 S p.1=some p.2))
noncomputable def zBo (w:zBM) (g:G) (b:CS):List D→CS
 | []=>fun ρ S=>if okW w S then .nx ρ S else .bad
 | d::ds=>fun ρ S=>if okW w S then (match g d ρ S with
  | .ok ρ1 S1=>match b ρ1 S1 with
   | .nx ρ2 S2=>zBo w g b ds ρ2 S2
   | .ct ρ2 S2=>zBo w g b ds ρ2 S2
   | .bk ρ2 S2=>.nx ρ2 S2
   | r=>r
  | .bad=>.bad
  | .er _ _=>.bad) else .bad
noncomputable def sFor (it:CI) (g:G) (b:CS):CS:=fun ρ S=>match it ρ S with
 | .ok (items,w) S1=>zBo w g b items ρ S1
 | .bad=>.bad
 | .er _ _=>.bad
theorem for_go {items:List D}{w:zBM}{g:G}{cb:CS}{E:Ends}{σ:St}{J:It}{H0:Hp}{μ0:List Addr}{ρ:Env1}{S0:zA2} (sr0:SR X.K μ0 S0 H0) (re0:RE X.K H0 μ0 ρ σ) (io:ItOk X.K J items w μ0 H0) (p:zF8 X μ0 H0 E (zBo w g cb items ρ S0)) :
  ∃ W:Nat→Nat→St→Hp→Prop,(∃ m,W 0 m σ H0)∧∀ i m σ H,W i m σ H→(J.stop i H∧E.nx σ H)∨(J.go i H∧∃ N:St→Hp→Prop,(∀ σ' H',N σ' H'→∃ m',m'<m∧W (i+1) m' σ' H')∧∀ x H',J.yld i H x H'→tOfG X.K g x σ H' fun σ2 H2=>tOfS X cb { E with nx:=N,ct:=N,bk:=E.nx } σ2 H2):=by
 refine ⟨fun i m σ H=>i+m=items.length∧∃ μ ρ S,SR X.K μ S H∧Step X.K μ0 μ H0 H∧RE X.K H μ ρ σ∧zF8 X μ H E (zBo w g cb (items.drop i) ρ S),⟨items.length,by simp,μ0,ρ,S0,sr0,Step.refl _ _ _,re0,by exact p⟩,?_⟩
 rintro i m σ1 H1 ⟨him,μ1,ρ1,S1,sr1,st1,re1,p1⟩
 by_cases hi:i<items.length
 ·rw [List.drop_eq_getElem_cons hi] at p1
  unfold zBo at p1
  split at p1
  ·rename_i hw
   refine .inr ⟨io.go i H1 μ1 S1 sr1 st1 hw hi,fun σ' H'=>i+1+(m - 1)=items.length∧∃ μ ρ S,SR X.K μ S H'∧Step X.K μ0 μ H0 H'∧RE X.K H' μ ρ σ'∧zF8 X μ H' E (zBo w g cb (items.drop (i+1)) ρ S),fun σ' H' z=>⟨m - 1,by omega,z⟩,fun x H2 hy=>?_⟩
   obtain ⟨d,hd,sr2,st2,rv⟩:=io.yld i H1 μ1 S1 x H2 sr1 st1 hw hi hy
   have ed:=by rw [List.getElem?_eq_getElem hi] at hd; exact Option.some.inj hd
   rw [ed] at p1
   split at p1
   ·rename_i ρ3 S3 h3
    refine ⟨μ1,ρ1,S1,d,ρ3,S3,sr2,re1.up st2,rv,h3,fun σ3 H3 μ3 sr3 st3 re3=>⟨μ3,ρ3,S3,sr3,re3,?_⟩⟩
    have st23:=st2.trans st3 sr3.nd
    have st03:=st1.trans st23 sr3.nd
    revert p1
    cases cb ρ3 S3 with
    | nx ρ4 S4=>exact fun p σ4 H4 μ4 sr4 st4 re4=>⟨by omega,μ4,ρ4,S4,sr4,st03.trans st4 sr4.nd,re4,p.shift (st23.trans st4 sr4.nd)⟩
    | ct ρ4 S4=>exact fun p σ4 H4 μ4 sr4 st4 re4=>⟨by omega,μ4,ρ4,S4,sr4,st03.trans st4 sr4.nd,re4,p.shift (st23.trans st4 sr4.nd)⟩
    | bk ρ4 S4=>exact fun p σ4 H4 μ4 sr4 st4 re4=>p σ4 H4 μ4 sr4 (st23.trans st4 sr4.nd) re4
    | rt d S4=>exact fun p=>Yld.shift p st23
    | bad=>exact fun p=>p
    | er _ _=>exact fun p=>YldE.shift p st23
   ·exact False.elim p1
   ·exact False.elim p1
  ·exact False.elim p1
 ·have e:i=items.length:=by omega
  subst e
  rw [List.drop_length] at p1
  unfold zBo at p1
  split at p1
  ·rename_i hw
   exact .inl ⟨io.stop H1 μ1 S1 sr1 st1 hw,p1 σ1 H1 μ1 sr1 (Step.refl _ _ _) re1⟩
  ·exact False.elim p1
theorem ss_for {iter:Expr}{body:List Stmt}{it:CI}{g:G}{cb:CS} (hp:PassesOwn (model X.prog X.w) X.A X.env X.xe) (hc:X.calm=true) (hi:PI X tg iter (tOfI X.K it)) (hg:PG X tg (tOfG X.K g)) (hb:PSs X body (tOfS X cb))
  (hs:∀ x,foldedSetIterable iter X.env x=pure x):PS X (.For tg iter body [] pos) (tOfS X (sFor it g cb)):=(ps_for hp hc hi hg hb hs).weak (by
 rintro E σ H ⟨μ,ρ,S,sr,re,p⟩
 unfold sFor at p
 split at p
 ·rename_i items w S0 h0
  exact ⟨μ,ρ,S,items,w,S0,sr,re,h0,fun J H0 μ0 sr0 st0 io=>for_go sr0 (re.up st0) io (p.shift st0)⟩
 ·exact False.elim p
 ·exact False.elim p)
noncomputable def zAI (c:Str):CS:=fun _ S=>.er c S
theorem zNf {x:Str}{txt:Str}{j:Nat}{np p2 cpos:Pos} (hc:X.calm=true) (hg:Gl X x) (hx:∃ C,X.mg x=some (.ref C)∧ExcK X.K C) (hd:(x == ("__debug__":Str))=false):PS X (.Raise (some (.Call (.Name x np) [.Constant (.str txt) j p2] [] cpos)) none pos) (tOfS X (zAI x)):=by
 obtain ⟨C,hm,hk⟩:=hx
 refine (zNB hc hg hm hk ex_new hd).weak ?_
 rintro E σ H ⟨μ,ρ,S,sr,re,p⟩
 exact p H μ sr (Step.refl _ _ _) C hm
inductive tOfX (X:Cx) (c:C) (σ:St) (H:Hp) (Q:VK):Prop
 | mk (μ:List Addr) (ρ:Env1) (S:zA2) (sr:SR X.K μ S H) (re:RE X.K H μ ρ σ) (y:match c ρ S with | .ok d S'=>Yld X.K μ H d S' Q | .er k S'=>YldE X μ H k S' | .bad=>False)
noncomputable def zC5 (c:C):CS:=fun ρ S=>match c ρ S with
 | .ok d S'=>.rt d S'
 | .bad=>.bad
 | .er k S'=>.er k S'
theorem zPM (he:PE X e (tOfX X ce)):PS X (.Return (some e) pos) (tOfS X (zC5 ce)):=(zKW he).weak (by
 rintro E σ H ⟨μ,ρ,S,sr,re,p⟩
 refine ⟨μ,ρ,S,sr,re,?_⟩
 unfold zC5 at p
 revert p
 cases ce ρ S with
 | ok d S'=>exact fun p=>p
 | bad=>exact fun p=>p
 | er k S'=>exact fun p=>p)
noncomputable def zCQ (c:C):CS:=fun ρ S=>match c ρ S with
 | .ok _ S'=>.nx ρ S'
 | .bad=>.bad
 | .er k S'=>.er k S'
theorem zNg (he:PE X e (tOfX X ce)) (hs:swapsWith e none pos.line X.env=pure false):PS X (.Expr e pos) (tOfS X (zCQ ce)):=(zKX he hs).weak (by
 rintro E σ H ⟨μ,ρ,S,sr,re,p⟩
 refine ⟨μ,ρ,S,sr,re,?_⟩
 unfold zCQ at p
 revert p
 cases ce ρ S with
 | ok d S'=>exact fun p v H1 μ1 sr1 st1 r1=>p σ H1 μ1 sr1 st1 (re.up st1)
 | bad=>exact fun p=>p
 | er k S'=>exact fun p=>p)
noncomputable def zBn (K:W.Frag) (mg:Str→Option Value) (φ:List D→M D) (n:Nat):Sp:=fun vs H Q E=>vs.length=n∧∃ μ ds S,SR K μ S H∧RVs K H μ ds vs∧match φ ds S with
 | .ok d S'=>Yld K μ H d S' Q
 | .er c S'=>∀ H' μ',SR K μ' S' H'→Step K μ μ' H H'→∀ C,mg c=some (.ref C)→E (.ref C) none H'
 | .bad=>False
theorem zNU {φ:List D→M D}{n:Nat}{ca':CA} (hn:∀ ds S,φ ds S≠.bad→ds.length=n):∀ σ H Q,tOf X.K (cApp φ ca') σ H Q→zNb (zBn X.K X.mg φ n) [] E0 (tOfA X.K ca') σ H Q:=by
 rintro σ H Q ⟨μ,ρ,S,d,S',sr,re,e,y⟩
 obtain ⟨xs,S1,e1,e⟩:=zA7 e
 refine ⟨μ,ρ,S,xs,S1,sr,re,e1,fun vs H1 μ1 sr1 st1 r1=>?_⟩
 rw [List.append_nil]
 refine ⟨by rw [← r1.len]; exact hn _ S1 (by rw [e]; exact fun z=>by cases z),μ1,xs,S1,sr1,r1,?_⟩
 rw [e]
 exact y.shift st1
noncomputable def zAt (φ:List D→M D) (ca:CA):C:=fun ρ S=>match ca ρ S with
 | .ok xs S1=>φ xs S1
 | _=>.bad
theorem zCU {φ:List D→M D}{n:Nat}{ca':CA} (hn:∀ ds S,φ ds S≠.bad→ds.length=n):∀ σ H Q,tOfX X (zAt φ ca') σ H Q→zNb (zBn X.K X.mg φ n) [] (EX X) (tOfA X.K ca') σ H Q:=by
 rintro σ H Q ⟨μ,ρ,S,sr,re,y⟩
 unfold zAt at y
 cases h:ca' ρ S with
 | bad=>rw [h] at y; exact y.elim
 | er c S'=>rw [h] at y; exact y.elim
 | ok xs S1 =>
  rw [h] at y
  refine ⟨μ,ρ,S,xs,S1,sr,re,h,fun vs H1 μ1 sr1 st1 r1=>?_⟩
  rw [List.append_nil]
  dsimp only at y
  refine ⟨by rw [← r1.len]; exact hn _ S1 (fun z=>by rw [z] at y; exact y),μ1,xs,S1,sr1,r1,?_⟩
  revert y
  cases φ xs S1 with
  | ok d S'=>exact fun y=>Yld.shift y st1
  | bad=>exact fun y=>y
  | er c S'=>exact fun y=>YldE.shift y st1
structure zDq (P:Program) (w:World) (K:W.Frag) (mg:Str→Option Value) (base:Heap) (x:Str) (ps:List Str) (k:Nat) (sp:Sp):Prop where
 ex:∃ f fd,FnOk P w K mg base (CX1 P w) k f fd ps sp∧zBN K fd ps []∧W.keepIn K (.ref f)=true∧mg x=some (.ref f)
theorem zCS {x:Str}{ps:List Str}{k k':Nat}{sp:Sp}{E:XK}{e:Expr}{es:List Expr}{t:TA}{p:Pos} (C:zDq X.prog X.w X.K X.mg X.base x ps k sp) (hr:Room k' X.A) (hg:Gl X x) (hx:zB1 (CX1 X.prog X.w) X E) (ha:PA X (e::es) t) (hk:k≤k') (hdb:(x == ("__debug__":Str))=false)
  (h1:starEach (e::es) X.env=(false,eval e X.env)::starEach es X.env) (h2:(backTo pos (starEach es X.env)).any (·.1)=false) :
  PE X (.Call (.Name x p) (e::es) [] pos) (zNb sp [] E t):=by
 obtain ⟨f,fd,F,hb,hkp,hm⟩:=C.ex
 exact zQE (hdb:=hdb) (he:=h1) (hpl:=h2) F (hr.mono hk) hg hm hkp hb .nil hx ha
theorem pass1:zB1 (CX1 X.prog X.w) X E0:=fun _ _ _ _ _ _ _ h=>by
 obtain ⟨_,_,_,_,_,_,_,_,_,_,_,_,_,_,z⟩:=h
 exact z.elim
end
open PySem PySem.Spec PyProof.Rows
section
variable {X:Cx}{tg e:Expr}{ce:C}{pos:Pos}
noncomputable def kD:Key→D
 | .inl i=>.int i
 | .inr x=>.str x
noncomputable def iSeq (c:C):CI:=fun ρ=>bnd (c ρ) fun x S=>match x with
 | .tup xs=>.ok (xs,[]) S
 | .lst n=>match zA9 S n with
  | some xs=>.ok (xs,[(n,xs)]) S
  | none=>.bad
 | .dct n=>match S[n]? with
  | some (.dk kvs)=>.ok (kvs.map fun p=>kD p.1,[]) (S.set n (.fk kvs))
  | some (.fk kvs)=>.ok (kvs.map fun p=>kD p.1,[]) S
  | _=>.bad
 | _=>.bad
theorem it_tup {K:W.Frag}{H0:Hp}{μ0:List Addr}{a:Addr}{xs:List D}{vs:List V} (q:SqT K H0 a vs) (r:RVs K H0 μ0 xs vs):ItOk K (Itt K a) xs [] μ0 H0 where
 go:=fun i H μ S sr st _ hi=>by
  obtain ⟨v,e,_⟩:=r.get (List.getElem?_eq_getElem hi)
  exact ⟨vs,v,st.tk.t _ _ q,e⟩
 yld:=fun i H μ S x H' sr st _ hi y=>by
  obtain ⟨rfl,y⟩:=y
  obtain ⟨v,e,rv⟩:=r.get (List.getElem?_eq_getElem hi)
  have:=y vs (st.tk.t _ _ q)
  rw [e] at this; cases this
  exact ⟨xs[i],List.getElem?_eq_getElem hi,sr,Step.refl _ _ _,RV.up st.tk st.ext _ _ rv⟩
 stop:=fun H μ S sr st _=>⟨vs,st.tk.t _ _ q,by rw [r.len]; exact Nat.le_refl _⟩
theorem it_lst {K:W.Frag}{H0:Hp}{μ0:List Addr}{a:Addr}{n:Nat}{xs:List D} (hm:μ0[n]?=some a):ItOk K (Itl K a) xs [(n,xs)] μ0 H0 where
 go:=fun i H μ S sr st w hi=>by
  obtain ⟨vs,q,r⟩:=sr.sq (st.at hm) (w (n,xs) (by simp))
  obtain ⟨v,e,_⟩:=r.get (List.getElem?_eq_getElem hi)
  exact ⟨vs,v,q,e⟩
 yld:=fun i H μ S x H' sr st w hi y=>by
  obtain ⟨rfl,y⟩:=y
  obtain ⟨vs,q,r⟩:=sr.sq (st.at hm) (w (n,xs) (by simp))
  obtain ⟨v,e,rv⟩:=r.get (List.getElem?_eq_getElem hi)
  have:=y vs q
  rw [e] at this; cases this
  exact ⟨xs[i],List.getElem?_eq_getElem hi,sr,Step.refl _ _ _,rv⟩
 stop:=fun H μ S sr st w=>by
  obtain ⟨vs,q,r⟩:=sr.sq (st.at hm) (w (n,xs) (by simp))
  exact ⟨vs,q,by rw [r.len]; exact Nat.le_refl _⟩
theorem it_fk {K:W.Frag}{H0:Hp}{μ0:List Addr}{a:Addr}{o:Obj}{ws:List (Key × V)}{kvs:List (Key × D)} (q:H0 a=some (.frz o (.dK ws))) (e:kvs.map (·.1)=ws.map (·.1)):ItOk K (ItK a o) (kvs.map fun p=>kD p.1) [] μ0 H0 where
 go:=fun i H μ S sr st _ hi=>⟨ws,st.tk.z _ _ _ q,by
  have:=congrArg List.length e
  simp at this hi; lia⟩
 yld:=fun i H μ S x H' sr st _ hi y=>by
  obtain ⟨rfl,y⟩:=y
  obtain ⟨p,hp,rfl⟩:=y ws (st.tk.z _ _ _ q)
  have h1:(kvs.map (·.1))[i]?=some p.1:=by rw [e,List.getElem?_map,hp]; rfl
  have h2:(kvs.map fun p=>kD p.1)[i]?=some (kD p.1):=by
   have:(kvs.map fun p=>kD p.1)=(kvs.map (·.1)).map kD:=by rw [List.map_map]; rfl
   rw [this,List.getElem?_map,h1]; rfl
  refine ⟨kD p.1,h2,sr,Step.refl _ _ _,?_⟩
  cases p.1 <;> (unfold kD RV; rfl)
 stop:=fun H μ S sr st _=>⟨ws,st.tk.z _ _ _ q,by
  have:=congrArg List.length e
  simp at this; simp; lia⟩
theorem pi_seq {tl:TE} (hl:PE X e tl):PI X tg e (fun σ H R=>tl σ H fun x H1=>∃ a,x=.ref a∧((∃ xs,SqL X.K H1 a xs)∧R (Itl X.K a) H1∨(∃ xs,SqT X.K H1 a xs)∧R (Itt X.K a) H1
  ∨ (∃ kvs,((H1 a=some (.dK kvs)∧∀ o,R (ItK a o) (upd H1 a (.frz o (.dK kvs))))∨∃ o,H1 a=some (.frz o (.dK kvs))∧R (ItK a o) H1))
  ∨ False)):=by
 intro pins s σ H R I h
 refine thn (hl pins s σ H _ I h) fun v s1 ⟨x,H1,I1,r1,q1⟩=>?_
 obtain ⟨a,e,q⟩:=q1
 subst e
 cases r1
 rcases q with ⟨⟨xs,hq⟩,q⟩ | ⟨⟨xs,hq⟩,q⟩ | q
 ·obtain ⟨its,rv,p,hz⟩:=I1.list hq
  refine wpAny_pyIter_list p.isList ?_
  refine ⟨s1.heap.objs.size,[s1.heap.objs.size],_,_,H1,rfl,I1.kept (t':=s1.toks) fun b o e=>Heap.get?_push_of_some _ e,zKp a _,⟨_,Heap.get?_push_size _ rfl,rfl,rfl⟩,fun b hb=>?_,q⟩
  have e:b=s1.heap.objs.size:=by simpa using hb
  subst e
  exact I1.fpOk (Nat.le_refl _) (I1.hok.fresh (Nat.le_refl _))
 ·obtain ⟨its,rv,p,hz⟩:=I1.tuple hq
  refine wpAny_pyIter_tuple (show s1.heap.IsTuple a its.toArray from p) ?_
  refine ⟨s1.heap.objs.size,[s1.heap.objs.size],_,_,H1,rfl,I1.kept (t':=s1.toks) fun b o e=>Heap.get?_push_of_some _ e,zJr a _,⟨_,Heap.get?_push_size _ rfl,rfl,rfl⟩,fun b hb=>?_,q⟩
  have e:b=s1.heap.objs.size:=by simpa using hb
  subst e
  exact I1.fpOk (Nat.le_refl _) (I1.hok.fresh (Nat.le_refl _))
 ·skip
  rcases q with q | q
  ·exact dk_go I1 q
  exact q.elim
theorem zP7 (he:PE X e (tOf X.K ce)):PI X tg e (tOfI X.K (iSeq ce)):=(pi_seq he).weak (by
 rintro σ H R ⟨μ,ρ,S,items,w,S',sr,re,e,y⟩
 obtain ⟨x,S1,e1,e⟩:=zA7 e
 refine ⟨μ,ρ,S,x,S1,sr,re,e1,fun v H1 μ1 sr1 st1 r1=>?_⟩
 split at e
 ·rename_i xs
  cases e
  have r1':=r1
  obtain ⟨a,vs,rfl,q,rr⟩:=r1'
  exact ⟨a,rfl,.inr (.inl ⟨⟨vs,SqT.of q⟩,y _ H1 μ1 sr1 st1 (it_tup (SqT.of q) rr)⟩)⟩
 ·rename_i n
  split at e
  ·rename_i xs hx
   cases e
   obtain ⟨a,rfl,hm⟩:=r1
   obtain ⟨vs,q,rr⟩:=sr1.sq hm hx
   exact ⟨a,rfl,.inl ⟨⟨vs,q⟩,y _ H1 μ1 sr1 st1 (it_lst hm)⟩⟩
  ·cases e
 ·rename_i n
  unfold RV at r1; obtain ⟨a,rfl,hm⟩:=r1
  have fin:(∃ kvs,((H1 a=some (.dK kvs)∧∀ o,R (ItK a o) (upd H1 a (.frz o (.dK kvs))))∨∃ o,H1 a=some (.frz o (.dK kvs))∧R (ItK a o) H1)):=by
   split at e
   ·rename_i kvs ho
    cases e
    obtain ⟨ws,hw,rr⟩:=sr1.get hm ho
    refine ⟨ws,.inl ⟨hw,fun o=>?_⟩⟩
    have tk:TF X.K H1 (upd H1 a (.frz o (.dK ws))):=zFb hw (fun _ z=>by cases z) (fun _ _ z=>by cases z)
    obtain ⟨s1,s2⟩:=sr1.put (o:=.frz o (.dK ws)) (o':=.fk kvs) hm hw (fun _ z=>by cases z) (fun _ _ z=>by cases z) ⟨_,_,zA4,rr.up tk ⟨[],by simp⟩⟩
    exact y _ _ μ1 s1 (st1.trans s2 s1.nd) (it_fk zA4 rr.1)
   ·rename_i kvs ho
    cases e
    obtain ⟨o,ws,hw,rr⟩:=sr1.get hm ho
    exact ⟨ws,.inr ⟨o,hw,y _ H1 μ1 sr1 st1 (it_fk hw rr.1)⟩⟩
   ·cases e
  first
  | exact ⟨a,rfl,.inr (.inr (.inr (.inl fin)))⟩
  | exact ⟨a,rfl,.inr (.inr (.inl fin))⟩
 ·cases e)
noncomputable def upD (lo:Int) (n:Nat):List D:=(List.range n).map fun k=>D.int (lo+(k:Nat))
theorem zPl {K:W.Frag}{H0:Hp}{μ0:List Addr}{lo:Int}{n:Nat}:ItOk K (Itr lo n) (upD lo n) [] μ0 H0 where
 go:=fun i H μ S sr st _ hi=>by
  unfold upD at hi; simp at hi; exact hi
 yld:=fun i H μ S x H' sr st _ hi y=>by
  obtain ⟨rfl,rfl⟩:=y
  have hi':=by unfold upD at hi; simp at hi; exact hi
  exact ⟨.int (lo+i),by unfold upD; rw [List.getElem?_map,List.getElem?_range hi']; rfl,sr,Step.refl _ _ _,zAl⟩
 stop:=fun H μ S sr st _=>by
  show n≤(upD lo n).length
  unfold upD; simp
noncomputable def zD9 (a:CA):CI:=fun ρ=>bnd (a ρ) fun xs S=>match xs with
 | [.int j]=>if -4611686018427387904≤j∧j<4611686018427387904 then .ok (upD 0 j.toNat,[]) S else .bad
 | _=>.bad
noncomputable def zI4 (a:CA):CI:=fun ρ=>bnd (a ρ) fun xs S=>match xs with
 | [.int i,.int j]=>if -4611686018427387904≤i∧i<4611686018427387904∧-4611686018427387904≤j∧j<4611686018427387904 then .ok (upD i (j - i).toNat,[]) S else .bad
 | _=>.bad
variable {a b:Expr}{ca:CA}
theorem zKG {p:Pos} (h:PI X tg (.Call (.Name "range" p) [a] [] pos) (iRng1 (tOfA X.K ca))):PI X tg (.Call (.Name "range" p) [a] [] pos) (tOfI X.K (zD9 ca)):=h.weak (by
 rintro σ H R ⟨μ,ρ,S,items,w,S',sr,re,e,y⟩
 obtain ⟨xs,S1,e1,e⟩:=zA7 e
 refine ⟨μ,ρ,S,xs,S1,sr,re,e1,fun vs H1 μ1 sr1 st1 r1=>?_⟩
 split at e
 ·rename_i j
  split at e
  ·rename_i hl
   cases e
   obtain ⟨v,rfl,r2⟩:=r1.one
   subst r2
   exact ⟨j,rfl,hl.1,hl.2,y _ H1 μ1 sr1 st1 zPl⟩
  ·cases e
 ·cases e)
theorem zKF {p:Pos} (h:PI X tg (.Call (.Name "range" p) [a,b] [] pos) (iRng2 (tOfA X.K ca))):PI X tg (.Call (.Name "range" p) [a,b] [] pos) (tOfI X.K (zI4 ca)):=h.weak (by
 rintro σ H R ⟨μ,ρ,S,items,w,S',sr,re,e,y⟩
 obtain ⟨xs,S1,e1,e⟩:=zA7 e
 refine ⟨μ,ρ,S,xs,S1,sr,re,e1,fun vs H1 μ1 sr1 st1 r1=>?_⟩
 split at e
 ·rename_i i j
  split at e
  ·rename_i hl
   cases e
   obtain ⟨v,u,rfl,r2,r3⟩:=r1.two
   subst r2 r3
   exact ⟨i,j,rfl,hl,y _ H1 μ1 sr1 st1 zPl⟩
  ·cases e
 ·cases e)
theorem zKm {α β:Type}{xs:List α}{ys:List β}{i:Nat} (h:i<(xs.zip ys).length):∃ x y,xs[i]?=some x∧ys[i]?=some y∧(xs.zip ys)[i]?=some (x,y):=by
 rw [List.length_zip] at h
 have h1:i<xs.length:=by omega
 have h2:i<ys.length:=by omega
 exact ⟨xs[i],ys[i],List.getElem?_eq_getElem h1,List.getElem?_eq_getElem h2,by rw [List.getElem?_zip_eq_some]; exact ⟨List.getElem?_eq_getElem h1,List.getElem?_eq_getElem h2⟩⟩
noncomputable def zipD (xs ys:List D):List D:=(xs.zip ys).map fun p=>.tup [p.1,p.2]
theorem zPb {K:W.Frag}{H:Hp}{μ:List Addr}:∀ ss:List Str,RVs K H μ (ss.map D.str) (ss.map V.str)
 | []=>RVs.nil
 | z::ss=>.cons zBb (zPb ss)
noncomputable def zsAt (S:zA2):D→Option (List D)
 | .tup xs=>some xs
 | .lst n=>zA9 S n
 | .ktp xs=>some (xs.map D.str)
 | _=>none
noncomputable def zBY (x:D) (xs:List D):zBM:=match x with
 | .lst n=>[(n,xs)]
 | _=>[]
theorem zP6 {K:W.Frag}{μ:List Addr}{S:zA2}{H:Hp}{x:D}{v:V}{xs:List D} (sr:SR K μ S H) (r:RV K H μ x v) (ho:zsAt S x=some xs):∃ a b,v=.ref a∧(∃ vs,SqX b K H a vs) ∧
  ∀ H1 μ1 S1,SR K μ1 S1 H1→Step K μ μ1 H H1→okW (zBY x xs) S1→∃ vs,SqX b K H1 a vs∧RVs K H1 μ1 xs vs:=by
 unfold zsAt at ho
 split at ho
 ·rename_i ys
  cases ho
  obtain ⟨a,vs,rfl,q,rr⟩:=r
  exact ⟨a,true,rfl,⟨vs,SqT.of q⟩,fun H1 μ1 S1 sr1 st1 _=>⟨vs,st1.tk.t _ _ (SqT.of q),RVs.up st1.tk st1.ext _ _ rr⟩⟩
 ·rename_i n
  obtain ⟨a,rfl,hm⟩:=r
  obtain ⟨vs,q,rr⟩:=sr.sq hm ho
  exact ⟨a,false,rfl,⟨vs,q⟩,fun H1 μ1 S1 sr1 st1 w=>sr1.sq (st1.at hm) (w (n,xs) (by simp [zBY]))⟩
 ·cases ho
  unfold RV at r
  obtain ⟨a,rfl,q⟩:=r
  exact ⟨a,true,rfl,⟨_,q⟩,fun H1 μ1 S1 sr1 st1 _=>⟨_,st1.tk.t _ _ q,zPb _⟩⟩
 ·cases ho
theorem zD6 {w1 w2:zBM}{S:zA2}:okW (w1++w2) S↔okW w1 S∧okW w2 S:=by
 unfold okW
 simp only [List.mem_append]
 exact ⟨fun h=>⟨fun p hp=>h p (.inl hp),fun p hp=>h p (.inr hp)⟩,fun h p hp=>hp.elim (h.1 p) (h.2 p)⟩
theorem it_zipX {K:W.Frag}{H0:Hp}{μ0:List Addr}{a b:Addr}{b1 b2:Bool}{w1 w2:zBM}{xs ys:List D}
  (g1:∀ H1 μ1 S1,SR K μ1 S1 H1→Step K μ0 μ1 H0 H1→okW w1 S1→∃ vs,SqX b1 K H1 a vs∧RVs K H1 μ1 xs vs) (g2:∀ H1 μ1 S1,SR K μ1 S1 H1→Step K μ0 μ1 H0 H1→okW w2 S1→∃ vs,SqX b2 K H1 b vs∧RVs K H1 μ1 ys vs) :
  ItOk K (ItzX b1 b2 K a b) (zipD xs ys) (w1++w2) μ0 H0 where
 go:=fun i H μ S sr st w hi=>by
  obtain ⟨vs,q,r⟩:=g1 H μ S sr st (zD6.mp w).1
  obtain ⟨us,q2,r2⟩:=g2 H μ S sr st (zD6.mp w).2
  obtain ⟨x,y,e1,e2,_⟩:=zKm (by unfold zipD at hi; simpa using hi)
  obtain ⟨v,g1,_⟩:=r.get e1
  obtain ⟨u,g2,_⟩:=r2.get e2
  exact ⟨vs,us,v,u,q,q2,g1,g2⟩
 yld:=fun i H μ S x H' sr st w hi y=>by
  obtain ⟨T,hT,rfl,y⟩:=y
  obtain ⟨vs,q,r⟩:=g1 H μ S sr st (zD6.mp w).1
  obtain ⟨us,q2,r2⟩:=g2 H μ S sr st (zD6.mp w).2
  obtain ⟨x,y',e1,e2,e3⟩:=zKm (by unfold zipD at hi; simpa using hi)
  obtain ⟨v,g1,rv⟩:=r.get e1
  obtain ⟨u,g2,ru⟩:=r2.get e2
  have:=y vs us v u q q2 g1 g2
  subst this
  obtain ⟨s1,s2,s3⟩:=zFP sr hT (.cons rv (.cons ru .nil))
  exact ⟨.tup [x,y'],by unfold zipD; rw [List.getElem?_map,e3]; rfl,s1,s2,s3⟩
 stop:=fun H μ S sr st w=>by
  obtain ⟨vs,q,r⟩:=g1 H μ S sr st (zD6.mp w).1
  obtain ⟨us,q2,r2⟩:=g2 H μ S sr st (zD6.mp w).2
  exact ⟨vs,us,q,q2,by unfold zipD; rw [List.length_map,List.length_zip,r.len,r2.len]⟩
noncomputable def zOw (a:CA):CI:=fun ρ=>bnd (a ρ) fun xs S=>match xs with
 | [x,y]=>match zsAt S x,zsAt S y with
  | some ys,some zs=>.ok (zipD ys zs,zBY x ys++zBY y zs) S
  | _,_=>.bad
 | _=>.bad
theorem si_zip {elts:List Expr}{k:Nat}{tpos p:Pos} (h:PI X (.Tuple elts k tpos) (.Call (.Name "zip" p) [a,b] [] pos) (iZipX X.K (tOfA X.K ca))):PI X (.Tuple elts k tpos) (.Call (.Name "zip" p) [a,b] [] pos) (tOfI X.K (zOw ca)):=h.weak (by
 rintro σ H R ⟨μ,ρ,S,items,w,S',sr,re,e,y⟩
 obtain ⟨xs,S1,e1,e⟩:=zA7 e
 refine ⟨μ,ρ,S,xs,S1,sr,re,e1,fun vs H1 μ1 sr1 st1 r1=>?_⟩
 split at e
 ·rename_i x1 x2
  split at e
  ·rename_i ys zs h1 h2
   cases e
   obtain ⟨v,u,rfl,r2,r3⟩:=r1.two
   obtain ⟨a,b1,rfl,q1,g1⟩:=zP6 sr1 r2 h1
   obtain ⟨b,b2,rfl,q2,g2⟩:=zP6 sr1 r3 h2
   exact ⟨a,b,b1,b2,rfl,q1,q2,y _ H1 μ1 sr1 st1 (it_zipX g1 g2)⟩
  ·cases e
 ·cases e)
noncomputable def zEX (xs:List D):List D:=((List.range xs.length).zip xs).map fun p=>.tup [.int (p.1:Nat),p.2]
theorem zJf {xs:List D}{i:Nat} (h:i<xs.length):(zEX xs)[i]?=some (.tup [.int (i:Nat),xs[i]]):=by
 unfold zEX
 rw [List.getElem?_map]
 have:((List.range xs.length).zip xs)[i]?=some (i,xs[i]):=by
  rw [List.getElem?_zip_eq_some]
  exact ⟨List.getElem?_range h,List.getElem?_eq_getElem h⟩
 rw [this]; rfl
theorem zCk (xs:List D):(zEX xs).length=xs.length:=by unfold zEX; simp
theorem zOk {K:W.Frag}{H0:Hp}{μ0:List Addr}{a:Addr}{xs:List D}{vs:List V} (q:SqT K H0 a vs) (r:RVs K H0 μ0 xs vs):ItOk K (IteX true K a) (zEX xs) [] μ0 H0 where
 go:=fun i H μ S sr st _ hi=>by
  rw [zCk] at hi
  obtain ⟨v,e,_⟩:=r.get (List.getElem?_eq_getElem hi)
  exact ⟨vs,v,st.tk.t _ _ q,e⟩
 yld:=fun i H μ S x H' sr st _ hi y=>by
  rw [zCk] at hi
  obtain ⟨T,hT,rfl,y⟩:=y
  obtain ⟨v,e,rv⟩:=r.get (List.getElem?_eq_getElem hi)
  have:=y vs v (st.tk.t _ _ q) e
  subst this
  obtain ⟨s1,s2,s3⟩:=zFP sr hT (.cons zAl (.cons (RV.up st.tk st.ext _ _ rv) .nil))
  exact ⟨_,zJf hi,s1,s2,s3⟩
 stop:=fun H μ S sr st _=>⟨vs,st.tk.t _ _ q,by rw [zCk,r.len]⟩
theorem zOl {K:W.Frag}{H0:Hp}{μ0:List Addr}{a:Addr}{n:Nat}{xs:List D} (hm:μ0[n]?=some a):ItOk K (IteX false K a) (zEX xs) [(n,xs)] μ0 H0 where
 go:=fun i H μ S sr st w hi=>by
  rw [zCk] at hi
  obtain ⟨vs,q,r⟩:=sr.sq (st.at hm) (w (n,xs) (by simp))
  obtain ⟨v,e,_⟩:=r.get (List.getElem?_eq_getElem hi)
  exact ⟨vs,v,q,e⟩
 yld:=fun i H μ S x H' sr st w hi y=>by
  rw [zCk] at hi
  obtain ⟨T,hT,rfl,y⟩:=y
  obtain ⟨vs,q,r⟩:=sr.sq (st.at hm) (w (n,xs) (by simp))
  obtain ⟨v,e,rv⟩:=r.get (List.getElem?_eq_getElem hi)
  have:=y vs v q e
  subst this
  obtain ⟨s1,s2,s3⟩:=zFP sr hT (.cons zAl (.cons rv .nil))
  exact ⟨_,zJf hi,s1,s2,s3⟩
 stop:=fun H μ S sr st w=>by
  obtain ⟨vs,q,r⟩:=sr.sq (st.at hm) (w (n,xs) (by simp))
  exact ⟨vs,q,by rw [zCk,r.len]⟩
noncomputable def zJb (a:CA):CI:=fun ρ=>bnd (a ρ) fun xs S=>match xs with
 | [.tup ys]=>.ok (zEX ys,[]) S
 | [.lst n]=>match zA9 S n with
  | some ys=>.ok (zEX ys,[(n,ys)]) S
  | none=>.bad
 | _=>.bad
theorem zPW {elts:List Expr}{k:Nat}{tpos p:Pos} (h:PI X (.Tuple elts k tpos) (.Call (.Name "enumerate" p) [a] [] pos) (zPo X.K (tOfA X.K ca))):PI X (.Tuple elts k tpos) (.Call (.Name "enumerate" p) [a] [] pos) (tOfI X.K (zJb ca)):=h.weak (by
 rintro σ H R ⟨μ,ρ,S,items,w,S',sr,re,e,y⟩
 obtain ⟨xs,S1,e1,e⟩:=zA7 e
 refine ⟨μ,ρ,S,xs,S1,sr,re,e1,fun vs H1 μ1 sr1 st1 r1=>?_⟩
 split at e
 ·rename_i ys
  cases e
  obtain ⟨v,rfl,r2⟩:=r1.one
  obtain ⟨a,vs,rfl,q,rr⟩:=r2
  exact ⟨a,rfl,.inl ⟨⟨vs,SqT.of q⟩,y _ H1 μ1 sr1 st1 (zOk (SqT.of q) rr)⟩⟩
 ·rename_i n
  split at e
  ·rename_i ys ho
   cases e
   obtain ⟨v,rfl,r2⟩:=r1.one
   obtain ⟨a,rfl,hm⟩:=r2
   obtain ⟨vs,q,_⟩:=sr1.sq hm ho
   exact ⟨a,rfl,.inr ⟨⟨vs,q⟩,y _ H1 μ1 sr1 st1 (zOl hm)⟩⟩
  ·cases e
 ·cases e)
noncomputable def stE (k:Nat) (js:List Nat) (ρ:Env1):Env1:=List.replicate k none++js.map fun j=>(ρ[j]?).getD none
theorem RE.comp {K:W.Frag}{H:Hp}{μ:List Addr}{ρ:Env1}{σ:St} (re:RE K H μ ρ σ) (k:Nat) (js:List Nat):RE K H μ (stE k js ρ) (stC k js σ):=by
 refine ⟨by unfold stE stC; simp,fun i d e=>?_⟩
 unfold stE at e
 unfold stC
 by_cases hi:i<k
 ·rw [List.getElem?_append_left (by simpa using hi),List.getElem?_replicate] at e
  simp at e
 ·rw [List.getElem?_append_right (by simpa using hi),List.length_replicate,List.getElem?_map] at e
  rw [List.getElem?_append_right (by simpa using hi),List.length_replicate,List.getElem?_map]
  cases q:js[i - k]? with
  | none=>rw [q] at e; simp at e
  | some j =>
   rw [q] at e
   simp only [Option.map_some,Option.some.injEq] at e
   cases q2:ρ[j]? with
   | none=>rw [q2] at e; simp at e
   | some z =>
    rw [q2] at e
    subst e
    obtain ⟨v,e1,r1⟩:=re.2 j d q2
    exact ⟨v,by simp [e1],r1⟩
inductive Tgt where
 | one | many (k:Nat)
noncomputable def zKI:Env1→Nat→List D→Env1
 | ρ,_,[]=>ρ
 | ρ,s,x::xs=>zKI (ρ.set s (some x)) (s+1) xs
noncomputable def zHq (t:Tgt) (d:D) (ρ:Env1):Option Env1:=match t with
 | .one=>some (ρ.set 0 (some d))
 | .many k=>match d with
  | .tup xs=>if xs.length=k then some (zKI ρ 0 xs) else none
  | _=>none
noncomputable def zJc:Nat→Nat→TGs
 | _,0=>gNil
 | s,n+1=>gCons (zFV s) (zJc (s+1) n)
noncomputable def tgtK:Tgt→Nat
 | .one=>1
 | .many k=>k
noncomputable def tOfT' (K:W.Frag):Tgt→TG
 | .one=>zFV 0
 | .many k=>gTup K k (zJc 0 k)
theorem zII {k:Nat}{js:List Nat}{σ σ1:St} (h:zGj (stC k js σ) σ1) {i:Nat} (hi:i<k) (v:V):zGj (stC k js σ) (σ1.set i (some v)):=by
 refine ⟨by rw [List.length_set]; exact h.1,fun j u e=>?_⟩
 by_cases hj:i=j
 ·subst hj
  obtain ⟨_,h1,_⟩:=zHH e
  lia
 ·rw [List.getElem?_set_ne hj]
  exact h.2 j u e
theorem zGm (σ:St):zGj σ σ:=⟨rfl,fun _ _ h=>h⟩
theorem zJ1 {K:W.Frag}{H:Hp}{μ:List Addr}{k:Nat}{js:List Nat}{σ:St}{Q:St→Hp→Prop}:∀ {n s:Nat}{xs:List D}{vs:List V}{ρ1:Env1}{σ1:St},RVs K H μ xs vs→xs.length=n→s+n≤k→RE K H μ ρ1 σ1→zGj (stC k js σ) σ1→(∀ σ4,RE K H μ (zKI ρ1 s xs) σ4→zGj (stC k js σ) σ4→Q σ4 H)→zJc s n vs σ1 H Q
 | 0,s,xs,vs,ρ1,σ1,r,hl,hk,re,w,h=>by
  have:=List.length_eq_zero_iff.mp hl
  subst this
  exact ⟨r.nil_inv,h σ1 re w⟩
 | n+1,s,[],vs,ρ1,σ1,r,hl,hk,re,w,h=>by simp at hl
 | n+1,s,x::xs,vs,ρ1,σ1,r,hl,hk,re,w,h=>by
  obtain ⟨v,us,rfl,r1,r2⟩:=r.cons_inv
  exact ⟨v,us,rfl,zJ1 r2 (by simpa using hl) (by lia) (re.set r1 s) (zII w (by lia) v) h⟩
theorem zMM {K:W.Frag}{H:Hp}{μ:List Addr}{k:Nat}{js:List Nat}{σ:St}{ρ ρ4:Env1}{t:Tgt}{d:D}{x:V}{Q:St→Hp→Prop} (ht:tgtK t≤k) (re:RE K H μ (stE k js ρ) (stC k js σ)) (rv:RV K H μ d x) (e:zHq t d (stE k js ρ)=some ρ4) (h:∀ σ4,RE K H μ ρ4 σ4→zGj (stC k js σ) σ4→Q σ4 H) (h1:1≤k):tOfT' K t x (stC k js σ) H Q:=by
 cases t with
 | one =>
  cases e
  exact h _ (re.set rv 0) (zII (zGm _) h1 x)
 | many n =>
  unfold zHq at e
  dsimp only at e
  split at e
  ·rename_i xs
   split at e
   ·rename_i hl
    cases e
    obtain ⟨p,vs,rfl,q,rr⟩:=rv
    exact ⟨p,vs,rfl,SqT.of q,by rw [← rr.len]; exact hl,zJ1 rr hl (by have:n≤k:=ht; lia) re (zGm _) h⟩
   ·cases e
  ·cases e
noncomputable def zDB (w:zBM) (t:Tgt) (tc:CT) (c:C) (ρ0:Env1):List D→M (List D)
 | []=>fun S=>if okW w S then .ok [] S else .bad
 | d::ds=>fun S=>if okW w S then (match zHq t d ρ0 with
  | some ρ1=>bnd (tc ρ1) (fun k=>if k then bnd (c ρ1) fun y=>bnd (zDB w t tc c ρ0 ds) fun ys=>ret (y::ys) else zDB w t tc c ρ0 ds) S
  | none=>.bad) else .bad
noncomputable def zBe (it:CI) (k:Nat) (js:List Nat) (t:Tgt) (tc:CT) (c:C):C:=fun ρ=>bnd (it ρ) fun p S=>if p.1.length<lim then
  bnd (zDB p.2 t tc c (stE k js ρ) p.1) (fun ys S'=>.ok (.lst S'.length) (S'++[.lst ys])) S
 else .bad
theorem SR.acc {K:W.Frag}{H:Hp}{μ:List Addr}{S:zA2}{A:Addr}{us ws:List V} (sr:SR K μ S H) (hA:A∉μ) (h:H A=some (.lst us)):SR K μ S (upd H A (.lst ws)) :=
 ⟨sr.len,sr.nd,fun n a o e1 e2=>(sr.obj n a o e1 e2).up (zGp h) ⟨[],by simp⟩ (zA5 fun z=>hA (z▸List.mem_of_getElem? e1))⟩
theorem Step.acc {K:W.Frag}{H0 H:Hp}{μ0 μ:List Addr}{A:Addr}{us ws:List V} (st:Step K μ0 μ H0 H) (h0:H0 A=none) (h:H A=some (.lst us)):Step K μ0 μ H0 (upd H A (.lst ws)) :=
 ⟨st.pre,fun b o hb e=>by rw [zA5 (zAm e h0)]; exact st.fr b o hb e,st.tk.trans (zGp h)⟩
theorem SR.adopt {K:W.Frag}{H:Hp}{μ:List Addr}{S:zA2}{A:Addr}{us:List V}{acc:List D} (sr:SR K μ S H) (hA:A∉μ) (h:H A=some (.lst us)) (r:RVs K H μ acc us):SR K (μ++[A]) (S++[.lst acc]) H:=by
 refine ⟨by simp [sr.len],?_,fun n a u e1 e2=>?_⟩
 ·rw [List.nodup_append]
  refine ⟨sr.nd,by simp,fun a ha b hb=>?_⟩
  simp at hb; subst hb
  exact fun z=>hA (z▸ha)
 ·by_cases hn:n<μ.length
  ·rw [List.getElem?_append_left hn] at e1
   rw [List.getElem?_append_left (by rw [← sr.len]; exact hn)] at e2
   exact (sr.obj n a u e1 e2).up (TF.refl _ _) ⟨[A],rfl⟩ rfl
  ·rw [List.getElem?_append_right (by lia)] at e1
   rw [List.getElem?_append_right (by rw [← sr.len]; lia)] at e2
   have h1:=by
    have:=(List.getElem?_eq_some_iff.mp e1).1
    simp at this; omega
   rw [h1] at e1
   rw [← sr.len,h1] at e2
   simp at e1 e2
   subst e1 e2
   exact ⟨us,h,RVs.up (TF.refl _ _) ⟨[A],rfl⟩ _ _ r⟩
theorem Step.adopt {K:W.Frag}{H0 H:Hp}{μ0 μ:List Addr}{A:Addr} (st:Step K μ0 μ H0 H) (h0:H0 A=none):Step K μ0 (μ++[A]) H0 H:=by
 obtain ⟨ν,e,n⟩:=st.pre
 refine ⟨⟨ν++[A],by rw [e,List.append_assoc],fun b hb=>?_⟩,st.fr,st.tk⟩
 rcases List.mem_append.mp hb with h | h
 ·exact n b h
 ·simp at h; subst h; exact h0
theorem Step.notIn {K:W.Frag}{H H':Hp}{μ μ':List Addr}{A:Addr}{o:HO} (st:Step K μ μ' H H') (hA:A∉μ) (h:H A=some o):A∉μ':=fun z=>by
 obtain ⟨ν,rfl,n⟩:=st.pre
 rcases List.mem_append.mp z with q | q
 ·exact hA q
 ·rw [n A q] at h; cases h
inductive CompW (K:W.Frag) (items:List D) (w:zBM) (t:Tgt) (tc:CT) (c:C) (ρ0:Env1) (μ0:List Addr) (H0:Hp) (A:Addr) (S1:zA2) (ys:List D) (i m:Nat) (us:List V) (H2:Hp):Prop
 | mk (him:i+m=items.length) (hus:us.length≤i) (μ2:List Addr) (S2:zA2) (acc rest:List D) (sr:SR K μ2 S2 H2) (st:Step K μ0 μ2 H0 H2) (nA:A∉μ2) (hA:H2 A=some (.lst us)) (ra:RVs K H2 μ2 acc us) (el:zDB w t tc c ρ0 (items.drop i) S2=.ok rest S1) (eys:acc++rest=ys)
theorem zLf {σ:St}{H:Hp}{Q:VK}{it:CI}{k:Nat}{js:List Nat}{t:Tgt}{tc:CT}{c:C} (ht:tgtK t≤k) (h1:1≤k) (h:tOf X.K (zBe it k js t tc c) σ H Q):zKx (tOfI X.K it) k js (tOfT' X.K t) (tOfT X.K tc) (tOf X.K c) σ H Q:=by
 obtain ⟨μ,ρ,S,d,S',sr,re,e,y⟩:=h
 obtain ⟨⟨items,w⟩,S0,e0,f0⟩:=zA7 e
 dsimp only at f0
 split at f0
 ·rename_i hlim
  obtain ⟨ys,S1,e1,f1⟩:=zA7 f0
  cases f1
  refine ⟨μ,ρ,S,items,w,S0,sr,re,e0,fun J H0 μ0 sr0 st0 io A hA=>?_⟩
  have reC:=(re.up st0).comp k js
  obtain ⟨srA,stA⟩:=sr0.other hA
  have nA:=sr0.out hA
  refine ⟨CompW X.K items w t tc c (stE k js ρ) μ0 H0 A S1 ys,
   ⟨items.length,⟨by simp,Nat.zero_le _,μ0,S0,[],ys,srA,stA,nA,zA4,RVs.nil,by exact e1,rfl⟩⟩,?_⟩
  rintro i m us H2 ⟨him,hus,μ2,S2,acc,rest,sr2,st2,nA2,hA2,racc,el,eys⟩
  refine And.intro hA2 ?_
  by_cases hi:i<items.length
  ·rw [List.drop_eq_getElem_cons hi] at el
   unfold zDB at el
   split at el
   ·rename_i hw
    refine .inr ⟨io.go i H2 μ2 S2 sr2 st2 hw hi,zJ4 (by lia),fun x H3 hy=>?_⟩
    obtain ⟨d,hd,sr3,st3,rv⟩:=io.yld i H2 μ2 S2 x H3 sr2 st2 hw hi hy
    have ed:=by rw [List.getElem?_eq_getElem hi] at hd; exact Option.some.inj hd
    rw [ed] at el
    have hA3:=st3.fr A _ nA2 hA2
    have st03:=st2.trans st3 sr3.nd
    split at el
    ·rename_i ρ4 h4
     refine zMM ht (reC.up st03) rv h4 (fun σ4 re4 wk=>⟨wk,?_⟩) h1
     obtain ⟨kb,S3,e3,f3⟩:=zA7 el
     refine ⟨μ2,ρ4,S2,kb,S3,sr3,re4,e3,fun H5 μ5 sr5 st5=>?_⟩
     have hA5:=st5.fr A _ nA2 hA3
     have nA5:=st5.notIn nA2 hA3
     have st05:=st03.trans st5 sr5.nd
     have st25:=st3.trans st5 sr5.nd
     cases kb with
     | true =>
      obtain ⟨z,S4,e4,f4⟩:=zA7 f3
      obtain ⟨zs,S5,e5,f5⟩:=zA7 f4
      obtain ⟨rfl,rfl⟩:=zAd f5
      refine ⟨μ5,ρ4,S3,z,S4,sr5,re4.up st5,e4,fun v H6 μ6 sr6 st6 rv6=>?_⟩
      have hA6:=st6.fr A _ nA5 hA5
      have nA6:=st6.notIn nA5 hA5
      have st26:=st25.trans st6 sr6.nd
      have tku:TF X.K H6 (upd H6 A (.lst (us++[v]))):=zGp hA6
      refine ⟨hA6,m - 1,by lia,⟨by lia,by rw [List.length_append]; show us.length+1≤i+1; lia,μ6,S4,acc++[z],zs,sr6.acc nA6 hA6,(st05.trans st6 sr6.nd).acc hA hA6,nA6,zA4,?_,e5,by rw [List.append_assoc]; exact eys⟩⟩
      exact RVs.up tku ⟨[],by simp⟩ _ _ ((RVs.up st26.tk st26.ext _ _ racc).append (.cons rv6 .nil))
     | false =>
      exact ⟨m - 1,by lia,⟨by lia,by lia,μ5,S3,acc,rest,sr5,st05,nA5,hA5,RVs.up st25.tk st25.ext _ _ racc,f3,eys⟩⟩
    ·cases el
   ·cases el
  ·have ei:i=items.length:=by lia
   subst ei
   rw [List.drop_length] at el
   unfold zDB at el
   split at el
   ·rename_i hw
    cases el
    rw [List.append_nil] at eys
    subst eys
    refine .inl ⟨io.stop H2 μ2 _ sr2 st2 hw,?_⟩
    have hA0:H A=none:=by
     cases q:H A with
     | none=>rfl
     | some o =>
      by_cases hm:A∈μ
      ·exact absurd (st0.mem hm) nA
      ·rw [st0.fr A o hm q] at hA; cases hA
    have sr3:=sr2.adopt nA2 hA2 racc
    refine y (.ref A) H2 (μ2++[A]) sr3 ((st0.trans st2 sr2.nd).adopt hA0) ?_
    exact ⟨A,rfl,by rw [← sr2.len,List.getElem?_append_right (Nat.le_refl _),Nat.sub_self]; rfl⟩
   ·cases el
 ·cases f0
end
open PySem PySem.Spec PyProof.Rows
section
variable {X:Cx}
noncomputable def fStr:List D→M D:=fun xs S=>match xs with
 | [.int i]=>if i.natAbs<1000000000000000000 then .ok (.str (toString i)) S else .bad
 | _=>.bad
theorem zGO {i:Int} (hl:i.natAbs<1000000000000000000):i.natAbs.log2<1920:=by
 by_cases h0:i.natAbs=0
 ·rw [h0]; decide
 ·exact (Nat.log2_lt h0).mpr (Nat.lt_trans hl (by decide))
theorem cs_str:zBX X.K (cAny X (.type "str")) fStr:=by
 intro xs S d S' H μ vs Q e sr rx h
 unfold fStr at e
 split at e
 ·split at e
  ·rename_i hl
   cases e
   obtain ⟨v,rfl,r⟩:=rx.one
   unfold RV at r; subst r
   exact ⟨_,zHh,_,rfl,zGO hl,h.self sr zBb⟩
  ·cases e
 ·cases e
noncomputable def zPJ:List D→Option (List Str)
 | []=>some []
 | .str z::r=>(zPJ r).map (z::·)
 | _=>none
theorem zIL {K:W.Frag}{H:Hp}{μ:List Addr}:∀ {ds:List D}{ss:List Str}{vs:List V},zPJ ds=some ss→RVs K H μ ds vs→vs=ss.map V.str
 | [],ss,vs,e,r=>by cases e; rw [r.nil_inv]; rfl
 | x::ds,ss,vs,e,r=>by
  cases x with
  | str z =>
   obtain ⟨ts,e1,rfl⟩:=Option.map_eq_some_iff.mp e
   obtain ⟨v,ws,rfl,r1,r2⟩:=r.cons_inv
   unfold RV at r1; subst r1
   rw [zIL e1 r2]; rfl
  | _=>cases e
noncomputable def zI0:D→List D→M D:=fun x xs S=>match x,xs with
 | .str z,[.lst n]=>match S[n]? with
  | some (.lst ys)=>match zPJ ys with
   | some ss=>if JoinOk z ss=true then .ok (.str (Txt.join z ss)) S else .bad
   | none=>.bad
  | _=>.bad
 | _,_=>.bad
theorem ms_join:MtS X.K "str" (zBF X "str.join") zI0:=by
 intro x xs S d S' H μ v us Q e sr rx rs y
 unfold zI0 at e
 split at e
 ·split at e
  ·rename_i ys hl
   split at e
   ·rename_i ss hs
    split at e
    ·rename_i hj
     cases e
     unfold RV at rx; subst rx
     obtain ⟨u,rfl,ru⟩:=rs.one
     unfold RV at ru; obtain ⟨p,rfl,hm⟩:=ru
     obtain ⟨vs,hp,rr⟩:=sr.lst hm hl
     have:=zIL hs rr
     subst this
     exact ⟨_,mt_join,_,p,ss,rfl,rfl,hp,hj,y.self sr zBb⟩
    ·cases e
   ·cases e
  ·cases e
 ·cases e
noncomputable def zO8:D→List D→M D:=fun x xs S=>match x,xs with
 | .str z,[.str y]=>.ok (.int (Txt.find z y)) S
 | _,_=>.bad
theorem ms_find:MtS X.K "str" (zBF X "str.find") zO8:=by
 intro x xs S d S' H μ v us Q e sr rx rs y
 unfold zO8 at e
 split at e
 ·cases e
  unfold RV at rx; subst rx
  obtain ⟨u,rfl,ru⟩:=rs.one
  unfold RV at ru; subst ru
  exact ⟨_,mt_find,_,_,rfl,rfl,y.self sr zAl⟩
 ·cases e
open Builtin Builtin.Str in
noncomputable def zGN:D→List D→M D:=fun x xs S=>match x,xs with
 | .str z,[.str y]=>if (y.length == 0)=false∧z.length≤lim∧(partsBetween z (occurrences z y 0 z.length (z.length+1)) y.length).length≤lim then .ok (.lst S.length) (S++[.lst ((Txt.split z y).map D.str)]) else .bad
 | _,_=>.bad
theorem zDK {K:W.Frag}{H:Hp}{μ:List Addr}:∀ ss:List Str,RVs K H μ (ss.map D.str) (ss.map V.str)
 | []=>.nil
 | _::ss=>.cons zBb (zDK ss)
theorem zO2:MtS X.K "str" (zBF X "str.split") zGN:=by
 intro x xs S d S' H μ v us Q e sr rx rs y
 unfold zGN at e
 split at e
 ·split at e
  ·rename_i hc
   cases e
   unfold RV at rx; subst rx
   obtain ⟨u,rfl,ru⟩:=rs.one
   unfold RV at ru; subst ru
   refine ⟨_,zNZ,_,_,rfl,rfl,hc.1,zBc hc.2.1,zBc hc.2.2,fun p hp=>?_⟩
   obtain ⟨s1,s2⟩:=sr.push (o:=.lst _) (o':=.lst _) hp ⟨_,zA4,zDK _⟩
   exact y _ _ _ s1 s2 (by unfold RV; exact ⟨p,rfl,by rw [← sr.len,List.getElem?_append_right (Nat.le_refl _),Nat.sub_self]; rfl⟩)
  ·cases e
 ·cases e
noncomputable def zLP:List D→List D→Option (List D × D):=fun ys xs=>match xs with
 | [.int i]=>if 0≤i∧ys.length<1000 then match ys[i.toNat]? with
   | some y=>some (ys.take i.toNat++ys.drop (i.toNat+1),y)
   | none=>none
  else none
 | _=>none
theorem zO3:MtS X.K "list" (zBF X "list.pop") (zE2 zLP):=zHX fun K H μ ys xs zs d vs us e r1 r2=>by
 unfold zLP at e
 split at e
 ·rename_i i
  split at e
  ·rename_i hc
   split at e
   ·rename_i y hy
    cases e
    obtain ⟨u,rfl,ru⟩:=r2.one
    unfold RV at ru; subst ru
    obtain ⟨v,e1,r3⟩:=r1.get hy
    have hl:=r1.len
    have hi:i.toNat<vs.length:=(List.getElem?_eq_some_iff.mp e1).1
    refine ⟨vs.take i.toNat++vs.drop (i.toNat+1),v,(r1.take _).append (r1.drop _),r3,fun p Q hp q=>⟨_,zO0,p,vs,i,i.toNat,v,rfl,rfl,hp,by omega,by omega,PySem.StrLaws.seqIndex_nonneg hc.1 (by omega),e1,?_⟩⟩
    rw [List.eraseIdx_eq_take_drop_succ]
    exact q
   ·cases e
  ·cases e
 ·cases e
noncomputable def cFmt (a:C):C:=fun ρ=>bnd (a ρ) fun x S=>match x with
 | .int i=>if i.natAbs<1000000000000000000 then .ok (.str (toString i)) S else .bad
 | .str z=>if z.length≤lim then .ok (.str z) S else .bad
 | _=>.bad
theorem se_fmt {e:Expr}{ca:C}{pos:Pos} (ha:PE X e (tOf X.K ca)):PE X (.FormattedValue e (-1) none pos) (tOf X.K (cFmt ca)):=(pe_fmt ha).weak (by
 rintro σ H Q ⟨μ,ρ,S,d,S',sr,re,e,y⟩
 obtain ⟨x,S1,e1,e⟩:=zA7 e
 refine ⟨μ,ρ,S,x,S1,sr,re,e1,fun v H1 μ1 sr1 st1 r1=>?_⟩
 try dsimp only at e
 split at e
 ·split at e
  ·rename_i hl
   cases e
   unfold RV at r1; subst r1
   exact .inl ⟨_,rfl,zGO hl,(y.shift st1).self sr1 zBb⟩
  ·cases e
 ·split at e
  ·rename_i hl
   cases e
   unfold RV at r1; subst r1
   exact .inr ⟨_,rfl,zBc hl,(y.shift st1).self sr1 zBb⟩
  ·cases e
 ·cases e)
noncomputable def cJS:List C→Str→C
 | [],acc=>fun _ S=>if acc.length≤lim then .ok (.str acc) S else .bad
 | c::cs,acc=>fun ρ=>bnd (c ρ) fun x S=>match x with
  | .str y=>if (acc++y).length≤lim then cJS cs (acc++y) ρ S else .bad
  | _=>.bad
theorem of_js {K:W.Frag}:∀ (cs:List C) (acc:Str) (σ:St) (H:Hp) (Q:VK),tOf K (cJS cs acc) σ H Q→tJS (cs.map (tOf K)) acc σ H Q
 | [],acc,σ,H,Q,⟨μ,ρ,S,d,S',sr,re,e,y⟩=>by
  unfold cJS at e
  split at e
  ·rename_i hl
   cases e
   exact ⟨zBc hl,y.self sr zBb⟩
  ·cases e
 | c::cs,acc,σ,H,Q,⟨μ,ρ,S,d,S',sr,re,e,y⟩=>by
  unfold cJS at e
  obtain ⟨x,S1,e1,e⟩:=zA7 e
  refine ⟨μ,ρ,S,x,S1,sr,re,e1,fun v H1 μ1 sr1 st1 r1=>?_⟩
  try dsimp only at e
  split at e
  ·split at e
   ·rename_i hl
    unfold RV at r1; subst r1
    exact ⟨_,rfl,zBc hl,of_js cs _ σ H1 Q ⟨μ1,ρ,S1,d,S',sr1,re.up st1,e,y.shift st1⟩⟩
   ·cases e
  ·cases e
end
open PySem PySem.Spec PyProof.Rows
noncomputable def Its (x:Str):It:=⟨fun i _=>i<x.cps.size,fun i H v H'=>H'=H∧∃ c,x.cps[i]?=some c∧v=.str ⟨#[c]⟩,fun i _=>x.cps.size≤i⟩
theorem zN7 {P:Program}{w:World}{K:PySem.W.Frag}{tg:Expr} (x:Str) (t:Tok) (it:Addr):Turn P w K tg (Its x) [it] it (fun i h=>h.IsStrIter it "str_ascii_iterator" x t i) where
 mem:=by simp
 obj:=fun i h st b hb=>by
  have e:=by simpa using hb
  subst e
  obtain ⟨o,e,c,d⟩:=st
  exact ⟨o,e,fun v z=>by rw [d] at z; cases z⟩
 keep:=fun i h h' st k=>by
  obtain ⟨o,e,r⟩:=st
  exact ⟨o,k it (by simp) o e,r⟩
 item:=by
  intro X hP hw hK hc i pins s σ H E I hf st hg
  subst hP hw hK
  obtain ⟨f0,f1,f2,f3,f4,f5⟩:=hf it (by simp)
  have W:=Walks.strAscii (prog:=X.prog) (w:=X.w) (I.ok.hd hc) it x t
  refine W.item i s _ _ hg st fun v h' tk hv st' kk=>?_
  obtain ⟨c,u,hx,rfl⟩:=hv
  have I1:Inv X pins σ H { s with heap:=h',toks:=tk }:=I.turned (fun b o hb e=>kk b o (by simpa using hb) e) f0 f1 f3 f4 f5
  obtain ⟨o,e,cc,d⟩:=id st'
  exact ⟨_,rfl,zLO e cc d (by decide) ⟨.str ⟨#[c]⟩,H,I1,⟨u,rfl⟩,⟨rfl,c,hx,rfl⟩,st',fun b hb=>(hf b hb).1⟩⟩
 done:=by
  intro X hP hw hK hc i pins s σ H E I hf st hg
  subst hP hw hK
  obtain ⟨f0,f1,f2,f3,f4,f5⟩:=hf it (by simp)
  exact wpAny_pyNext_ascii_end (I.ok.hd hc) st (Array.getElem?_eq_none hg) fun h' eb=>⟨rfl,I.turned (t':=s.toks) (fun b o hb e=>eb b o hb e) f0 f1 f3 f4 f5⟩
 self:=fun _ _ _ _ _ st h=>wpAny_pyIter_striter_ascii st h
noncomputable def iStr (ta:TE):TI:=fun σ H R=>ta σ H fun v H1=>∃ x,v=.str x∧x.cps.all (·<128)=true∧R (Its x) H1
theorem pi_str {X:Cx}{tg e:Expr}{ta:TE} (he:PE X e ta):PI X tg e (iStr ta):=by
 intro pins s σ H R I h
 refine thn (he pins s σ H _ I h) fun u s1 ⟨v,H1,I1,rv,x,ex,ha,q⟩=>?_
 subst ex
 obtain ⟨t,rfl⟩:=rv
 refine wpAny_pyIter_ascii ha ?_
 refine ⟨s1.heap.objs.size,[s1.heap.objs.size],_,_,H1,rfl,I1.kept (t':=s1.toks) fun b o e=>Heap.get?_push_of_some _ e,zN7 x t _,⟨_,Heap.get?_push_size _ rfl,rfl,rfl⟩,fun b hb=>?_,q⟩
 have e:b=s1.heap.objs.size:=by simpa using hb
 subst e
 exact I1.fpOk (Nat.le_refl _) (I1.hok.fresh (Nat.le_refl _))
section
variable {X:Cx}{tg e:Expr}{ce:C}
noncomputable def zFh (x:Str):List D:=x.cps.toList.map fun c=>.str ⟨#[c]⟩
theorem it_str {K:W.Frag}{H0:Hp}{μ0:List Addr}{x:Str}:ItOk K (Its x) (zFh x) [] μ0 H0 where
 go:=fun i H μ S sr st _ hi=>by
  unfold zFh at hi; rw [List.length_map,Array.length_toList] at hi; exact hi
 yld:=fun i H μ S v H' sr st _ hi y=>by
  obtain ⟨rfl,c,hc,rfl⟩:=y
  exact ⟨.str ⟨#[c]⟩,by unfold zFh; rw [List.getElem?_map,Array.getElem?_toList,hc]; rfl,sr,Step.refl _ _ _,zBb⟩
 stop:=fun H μ S sr st _=>by
  show x.cps.size≤(zFh x).length
  unfold zFh
  rw [List.length_map,Array.length_toList]; exact Nat.le_refl _
noncomputable def iTxt (c:C):CI:=fun ρ=>bnd (c ρ) fun x S=>match x with
 | .str z=>if z.cps.all (·<128) then .ok (zFh z,[]) S else .bad
 | _=>.bad
theorem si_txt (he:PE X e (tOf X.K ce)):PI X tg e (tOfI X.K (iTxt ce)):=(pi_str he).weak (by
 rintro σ H R ⟨μ,ρ,S,items,w,S',sr,re,ev,y⟩
 obtain ⟨x,S1,e1,ev⟩:=zA7 ev
 refine ⟨μ,ρ,S,x,S1,sr,re,e1,fun v H1 μ1 sr1 st1 r1=>?_⟩
 split at ev
 ·rename_i z
  split at ev
  ·rename_i ha
   cases ev
   unfold RV at r1; subst r1
   exact ⟨z,rfl,ha,y _ H1 μ1 sr1 st1 it_str⟩
  ·cases ev
 ·cases ev)
noncomputable def iOr (a b:CI):CI:=fun ρ S=>match a ρ S with
 | .ok p S1=>.ok p S1
 | _=>b ρ S
theorem si_or {ca cb:CI} (ha:PI X tg e (tOfI X.K ca)) (hb:PI X tg e (tOfI X.K cb)):PI X tg e (tOfI X.K (iOr ca cb)):=fun pins s σ H R I ⟨μ,ρ,S,items,w,S',sr,re,ev,y⟩=>by
 unfold iOr at ev
 cases h:ca ρ S with
 | ok p S1=>rw [h] at ev; cases ev; exact ha pins s σ H R I ⟨μ,ρ,S,items,w,S',sr,re,h,y⟩
 | bad=>rw [h] at ev; exact hb pins s σ H R I ⟨μ,ρ,S,items,w,S',sr,re,ev,y⟩
 | er c S1=>rw [h] at ev; exact hb pins s σ H R I ⟨μ,ρ,S,items,w,S',sr,re,ev,y⟩
end
open PySem PySem.Spec PyProof.Rows
theorem zN5 {H:Hp}{a b:Addr}{o u:HO} (n:a≠b):upd (upd H a o) b u=upd (upd H b u) a o:=by
 funext c
 by_cases e:c=a
 ·subst e; rw [zA5 n,zA4,zA4]
 ·by_cases e2:c=b
  ·subst e2; rw [zA4,zA5 e,zA4]
  ·rw [zA5 e2,zA5 e,zA5 e,zA5 e2]
def DkC (K:W.Frag) (C:Addr):Prop:=W.nsIn K mainGlobals "Desk"=some (some (.ref C))
theorem DkC.uniq {K:W.Frag}{C D:Addr} (a:DkC K C) (b:DkC K D):C=D:=by
 unfold DkC at a b; rw [a] at b; cases b; rfl
noncomputable def zK5:C:=fun _ S=>.ok (.ob S.length) (S++[.dk []])
section
variable {X:Cx}{e:Expr}{ce:C}
theorem zQ5 {C:Addr} (h:PE X e (tDesk C "kept")) (hC:DkC X.K C):PE X e (tOf X.K zK5):=h.weak fun σ H Q ⟨μ,ρ,S,d,S',sr,re,ev,y⟩=>by
 unfold zK5 at ev; cases ev
 intro x dx c hx hdx hc n1 n2 n3
 rw [zKn,zN5 (a:=c) n2,zKn]
 obtain ⟨s1,t1⟩:=sr.other (o:=.own x) hdx
 obtain ⟨s2,t2⟩:=s1.other (o:=.frz (W.instObj C dx) (.ins C dx [("kept",.ref c)])) (p:=x) (by rw [zA5 (fun z=>n1 z.symm)]; exact hx)
 obtain ⟨s3,t3⟩:=s2.push (o:=.dK []) (o':=.dk []) (p:=c) (by rw [zA5 n2,zA5 n3]; exact hc) ⟨[],zA4,rfl,RVs.nil⟩
 refine y _ _ _ s3 ((t1.trans t2 s2.nd).trans t3 s3.nd) ?_
 unfold RV
 exact ⟨x,_,C,dx,c,rfl,by rw [zA5 (fun z=>n2 z.symm),zA4],by rw [← sr.len,List.getElem?_append_right (Nat.le_refl _),Nat.sub_self]; rfl,hC⟩
noncomputable def zGI:D→M D
 | .ob n=>ret (.dct n)
 | _=>bad
theorem zQ2 {pos:Pos} (he:PE X e (tOf X.K ce)) (hb:attributeBase e "kept" X.env (eval e X.env)=eval e X.env) (hc:∀ C,DkC X.K C→Cls X.K C∧zBW X.K C "kept"):PE X (.Attribute e "kept" pos) (tOf X.K (cUn zGI ce)):=(zQz he hb).weak fun σ H Q ⟨μ,ρ,S,d,S',sr,re,ev,y⟩=>by
 obtain ⟨x,S1,e1,ev⟩:=zA7 ev
 refine ⟨μ,ρ,S,x,S1,sr,re,e1,fun v H1 μ1 sr1 st1 r1=>?_⟩
 cases x with
 | ob n =>
  unfold zGI at ev
  obtain ⟨rfl,rfl⟩:=zAd ev
  unfold RV at r1
  obtain ⟨a,o,C,dx,b,rfl,h1,h2,h3⟩:=r1
  obtain ⟨c1,c2⟩:=hc C h3
  exact ⟨a,C,dx,_,.ref b,rfl,.inr ⟨o,h1⟩,c1,c2,rfl,y _ _ _ sr1 st1 (by unfold RV; exact ⟨b,rfl,h2⟩)⟩
 | _=>cases ev
noncomputable def cMth (φ:List D→M D) (o:C) (a:CA):C:=fun ρ=>bnd (o ρ) fun x=>match x with
 | .ob n=>bnd (a ρ) fun xs=>φ (.ob n::xs)
 | _=>bad
noncomputable def zK4 (φ:List D→M D) (o:C) (a:CA):C:=fun ρ S=>match o ρ S with
 | .ok (.ob n) S1=>(match a ρ S1 with
  | .ok xs S2=>φ (.ob n::xs) S2
  | _=>.bad)
 | _=>.bad
theorem zLk {y m:Str}{yp apos pos:Pos}{es:List Expr}{env:Env} (hf:methodCallForm (es.length+([]:List Keyword).length) (backTo pos (starEach es env)) (backToKw pos (keywordEach [] env))=true) (hl:(apos.endLine == pos.line)=true) :
  eval (.Call (.Attribute (.Name y yp) m apos) es [] pos) env=(do
   let ov ← eval (.Name y yp) env
   standAt apos.atName
   let (f,first) ← holding [ov] (getMethod ov m (do return (← importBound (.Name y yp) env).getD true))
   callWith pos f first (backTo pos (starEach es env)) (backToKw pos (keywordEach [] env))):=by
 show (do
  let ov ← attributeBase (.Name y yp) m env (eval (.Name y yp) env)
  standAt apos.atName
  methodCall (.Name y yp) m apos pos env ov (es.length+([]:List Keyword).length) (backTo pos (starEach es env)) (backToKw pos (keywordEach [] env)))=_
 unfold methodCall calleeOf methodCallPos
 rw [hf,hl]
 rfl
structure zGk (P:Program) (w:World) (K:W.Frag) (mg:Str→Option Value) (base:Heap) (m:Str) (k:Nat) (sp:Sp):Prop where
 ex:∃ C f fd ps,DkC K C∧Cls K C∧Meth K C m f∧FnOk P w K mg base (CX1 P w) k f fd ps sp∧zBN K fd ps []∧m ≠ "kept"
theorem zLK {K:W.Frag}{H:Hp}{μ:List Addr}{n:Nat}{v:V}{C:Addr}{m:Str} (r:RV K H μ (.ob n) v) (hC:DkC K C) (hm:m ≠ "kept"):∃ a dx fs,v=.ref a∧Rd H a (.ins C dx fs)∧fs.lookup m=none:=by
 unfold RV at r
 obtain ⟨a,o,C',dx,b,rfl,h1,h2,h3⟩:=r
 obtain rfl:=DkC.uniq hC h3
 exact ⟨a,dx,_,rfl,.inr ⟨o,h1⟩,by rw [List.lookup_cons,show (m == ("kept":Str))=false by simpa using hm]; rfl⟩
theorem se_mth {φ:List D→M D}{n k k':Nat}{y m:Str}{yp apos pos:Pos}{es:List Expr}{a:Expr}{co:C}{ca:CA} (M:zGk X.prog X.w X.K X.mg X.base m k (zBn X.K X.mg φ n)) (hr:Room k' X.A) (hk:k≤k') (hn:∀ ds S,φ ds S≠.bad→ds.length=n)
  (ho:PE X (.Name y yp) (tOf X.K co)) (ha:PA X (a::es) (tOfA X.K ca)) (h1:starEach (a::es) X.env=(false,eval a X.env)::starEach es X.env) (h2:(backTo pos (starEach es X.env)).any (·.1)=false) (hf:methodCallForm ((a::es).length+([]:List Keyword).length) (backTo pos (starEach (a::es) X.env)) (backToKw pos (keywordEach [] X.env))=true) (hl:(apos.endLine == pos.line)=true) :
  PE X (.Call (.Attribute (.Name y yp) m apos) (a::es) [] pos) (tOf X.K (cMth φ co ca)):=by
 obtain ⟨C,f,fd,ps,dc,c,hm,F,hb,nk⟩:=M.ex
 refine (zFM ho c hm F (hr.mono hk) hb .nil pass1 ha h1 h2 (zLk hf hl)).weak fun σ H Q ⟨μ,ρ,S,d,S',sr,re,ev,q⟩=>?_
 obtain ⟨x,S1,e1,ev⟩:=zA7 ev
 refine ⟨μ,ρ,S,x,S1,sr,re,e1,fun v H1 μ1 sr1 st1 r1=>?_⟩
 cases x with
 | ob n =>
  obtain ⟨xs,S2,e2,ev⟩:=zA7 ev
  obtain ⟨p,dx,fs,rfl,g1,g2⟩:=zLK r1 dc nk
  refine ⟨p,dx,fs,rfl,g1,g2,μ1,ρ,S1,xs,S2,sr1,re.up st1,e2,fun vs H2 μ2 sr2 st2 r2=>?_⟩
  rw [List.append_nil]
  have r3:RVs X.K H2 μ2 (.ob n::xs) (.ref p::vs):=.cons (RV.up st2.tk st2.ext _ _ r1) r2
  refine ⟨by rw [← r3.len]; exact hn _ S2 (by rw [ev]; exact fun z=>by cases z),μ2,_,S2,sr2,r3,?_⟩
  rw [ev]
  exact q.shift (st1.trans st2 sr2.nd)
 | _=>cases ev
theorem zQ1 {φ:List D→M D}{n k k':Nat}{y m:Str}{yp apos pos:Pos}{es:List Expr}{a:Expr}{co:C}{ca:CA} (M:zGk X.prog X.w X.K X.mg X.base m k (zBn X.K X.mg φ n)) (hr:Room k' X.A) (hk:k≤k') (hn:∀ ds S,φ ds S≠.bad→ds.length=n) (hx:zB1 (CX1 X.prog X.w) X (EX X))
  (ho:PE X (.Name y yp) (tOf X.K co)) (ha:PA X (a::es) (tOfA X.K ca)) (h1:starEach (a::es) X.env=(false,eval a X.env)::starEach es X.env) (h2:(backTo pos (starEach es X.env)).any (·.1)=false) (hf:methodCallForm ((a::es).length+([]:List Keyword).length) (backTo pos (starEach (a::es) X.env)) (backToKw pos (keywordEach [] X.env))=true) (hl:(apos.endLine == pos.line)=true) :
  PE X (.Call (.Attribute (.Name y yp) m apos) (a::es) [] pos) (tOfX X (zK4 φ co ca)):=by
 obtain ⟨C,f,fd,ps,dc,c,hm,F,hb,nk⟩:=M.ex
 refine (zFM ho c hm F (hr.mono hk) hb .nil hx ha h1 h2 (zLk hf hl)).weak fun σ H Q ⟨μ,ρ,S,sr,re,q⟩=>?_
 unfold zK4 at q
 cases e1:co ρ S with
 | bad=>rw [e1] at q; exact q.elim
 | er c S'=>rw [e1] at q; exact q.elim
 | ok x S1 =>
  rw [e1] at q
  refine ⟨μ,ρ,S,x,S1,sr,re,e1,fun v H1 μ1 sr1 st1 r1=>?_⟩
  cases x with
  | ob n =>
   dsimp only at q
   cases e2:ca ρ S1 with
   | bad=>rw [e2] at q; exact q.elim
   | er c S'=>rw [e2] at q; exact q.elim
   | ok xs S2 =>
    rw [e2] at q
    dsimp only at q
    obtain ⟨p,dx,fs,rfl,g1,g2⟩:=zLK r1 dc nk
    refine ⟨p,dx,fs,rfl,g1,g2,μ1,ρ,S1,xs,S2,sr1,re.up st1,e2,fun vs H2 μ2 sr2 st2 r2=>?_⟩
    rw [List.append_nil]
    have r3:RVs X.K H2 μ2 (.ob n::xs) (.ref p::vs):=.cons (RV.up st2.tk st2.ext _ _ r1) r2
    have st:=st1.trans st2 sr2.nd
    refine ⟨by rw [← r3.len]; exact hn _ S2 (fun z=>by rw [z] at q; exact q),μ2,_,S2,sr2,r3,?_⟩
    revert q
    cases φ (.ob n::xs) S2 with
    | ok d S'=>exact fun q=>Yld.shift q st
    | bad=>exact fun q=>q
    | er c S'=>exact fun q=>YldE.shift q st
  | _=>exact q.elim
end
open PySem PySem.Spec PyProof.Rows
mutual
noncomputable def inD (k:Nat):D→Bool
 | .lst n=>decide (n<k)
 | .dct n=>decide (n<k)
 | .ob n=>decide (n<k)
 | .tup xs=>inDs k xs
 | .rol xs=>inDs k xs
 | _=>true
noncomputable def inDs (k:Nat):List D→Bool
 | []=>true
 | x::xs=>inD k x&&inDs k xs
end
noncomputable def inO (k:Nat):O→Bool
 | .lst xs=>inDs k xs
 | .dk kvs=>inDs k (kvs.map (·.2))
 | .dt kvs=>inDs k (kvs.map (·.2))
 | .fk kvs=>inDs k (kvs.map (·.2))
 | _=>true
section
variable {K:W.Frag}{H:Hp}{μ μ':List Addr}{k:Nat}
mutual
theorem RV.few (h:∀ i,i<k→μ[i]?=μ'[i]?):∀ (d:D) (v:V),inD k d=true→RV K H μ d v→RV K H μ' d v:=fun d v i r=>by
 cases d with
 | lst n=>unfold inD at i; unfold RV at r ⊢; obtain ⟨a,e,q⟩:=r; exact ⟨a,e,by rw [← h n (by simpa using i)]; exact q⟩
 | dct n=>unfold inD at i; unfold RV at r ⊢; obtain ⟨a,e,q⟩:=r; exact ⟨a,e,by rw [← h n (by simpa using i)]; exact q⟩
 | ob n=>unfold inD at i; unfold RV at r ⊢; obtain ⟨a,o,C,dx,b,e,z,q,w⟩:=r; exact ⟨a,o,C,dx,b,e,z,by rw [← h n (by simpa using i)]; exact q,w⟩
 | tup xs=>unfold inD at i; unfold RV at r ⊢; obtain ⟨p,vs,e,q,r⟩:=r; exact ⟨p,vs,e,q,RVs.few h xs vs i r⟩
 | rol xs=>unfold inD at i; unfold RV at r ⊢; obtain ⟨p,vs,e,q,r⟩:=r; exact ⟨p,vs,e,q,RVs.few h xs vs i r⟩
 | _=>unfold RV at r ⊢; exact r
theorem RVs.few (h:∀ i,i<k→μ[i]?=μ'[i]?):∀ (ds:List D) (vs:List V),inDs k ds=true→RVs K H μ ds vs→RVs K H μ' ds vs:=fun ds vs i r=>by
 cases ds with
 | nil=>unfold RVs at r ⊢; exact r
 | cons d ds =>
  unfold inDs at i
  rw [Bool.and_eq_true] at i
  unfold RVs at r ⊢
  obtain ⟨v,ws,e,r1,r2⟩:=r
  exact ⟨v,ws,e,RV.few h d v i.1 r1,RVs.few h ds ws i.2 r2⟩
end
theorem OR.few (h:∀ i,i<k→μ[i]?=μ'[i]?) {a:Addr}{o:O} (i:inO k o=true) (r:OR K H μ a o):OR K H μ' a o:=by
 cases o with
 | lst xs=>unfold inO at i; unfold OR at r ⊢; obtain ⟨vs,e,r⟩:=r; exact ⟨vs,e,RVs.few h _ _ i r⟩
 | dk kvs=>unfold inO at i; unfold OR at r ⊢; obtain ⟨vs,e,r⟩:=r; exact ⟨vs,e,r.1,RVs.few h _ _ i r.2⟩
 | dt kvs=>unfold inO at i; unfold OR at r ⊢; obtain ⟨vs,e,r⟩:=r; exact ⟨vs,e,r.1,RVs.few h _ _ i r.2⟩
 | tb x=>unfold OR at r ⊢; exact r
 | fk kvs=>unfold inO at i; unfold OR at r ⊢; obtain ⟨o,vs,e,r⟩:=r; exact ⟨o,vs,e,r.1,RVs.few h _ _ i r.2⟩
end
noncomputable def eqOb:O→O→Bool
 | .lst xs,.lst ys=>decide (xs=ys)
 | .dk xs,.dk ys=>decide (xs=ys)
 | .dt xs,.dt ys=>decide (xs=ys)
 | .tb x,.tb y=>decide (x=y)
 | _,_=>false
theorem eqOb_ok {a b:O} (h:eqOb a b=true):a=b:=by
 cases a <;> cases b <;> simp_all [eqOb]
noncomputable def eqSb:List O→List O→Bool
 | [],[]=>true
 | a::r,b::t=>eqOb a b&&eqSb r t
 | _,_=>false
theorem zG0:∀ {a b:List O},eqSb a b=true→a=b
 | [],[],_=>rfl
 | [],_::_,h=>by cases h
 | _::_,[],h=>by cases h
 | a::r,b::t,h=>by
  unfold eqSb at h
  rw [Bool.and_eq_true] at h
  rw [eqOb_ok h.1,zG0 h.2]
noncomputable def zCB (k:Nat) (φ:List D→M D):List D→M D:=fun ds S =>
 if inDs k ds&&(S.take k).all (inO k)&&decide (k≤S.length) then
  (match φ ds (S.take k) with
  | .ok d S1=>if inD 0 d&&eqSb (S1.take k) (S.take k) then .ok d S else φ ds S
  | .er c S1=>if eqSb (S1.take k) (S.take k) then .er c S else φ ds S
  | .bad=>φ ds S)
 else φ ds S
theorem zMo {k n:Nat}{φ:List D→M D} (hn:∀ ds S,φ ds S≠.bad→ds.length=n):∀ ds S,zCB k φ ds S≠.bad→ds.length=n:=fun ds S h=>by
 unfold zCB at h
 split at h
 ·cases e:φ ds (S.take k) with
  | bad=>rw [e] at h; exact hn ds S h
  | _=>exact hn ds (S.take k) (by rw [e]; exact fun z=>by cases z)
 ·exact hn ds S h
section
variable {K:W.Frag}{H H':Hp}{μ μ1:List Addr}{k:Nat}{S S1:zA2}
theorem SR.less (sr:SR K μ S H) (i:(S.take k).all (inO k)=true) (hk:k≤S.length):SR K (μ.take k) (S.take k) H:=by
 have g:∀ i,i<k→μ[i]?=(μ.take k)[i]?:=fun i hi=>by rw [List.getElem?_take_of_lt hi]
 refine ⟨by rw [List.length_take,List.length_take,sr.len],sr.nd.sublist (List.take_sublist ..),fun n a o h1 h2=>?_⟩
 have hn:n<k:=by
  have:=(List.getElem?_eq_some_iff.mp h2).1
  rw [List.length_take] at this
  lia
 rw [← g n hn] at h1
 have h3:=h2
 rw [List.getElem?_take_of_lt hn] at h2
 exact (sr.obj n a o h1 h2).few g (List.all_eq_true.mp i _ (List.mem_of_getElem? h3))
theorem SR.back (sr:SR K μ S H) (hk:k≤S.length) (i:(S.take k).all (inO k)=true) (sr1:SR K μ1 S1 H') (st:Step K (μ.take k) μ1 H H') (e:S1.take k=S.take k):SR K μ S H'∧Step K μ μ H H':=by
 obtain ⟨ν,em,_⟩:=st.pre
 have lk:k≤μ.length:=by rw [sr.len]; exact hk
 have lt:(μ.take k).length=k:=by rw [List.length_take]; lia
 have g:∀ i,i<k→μ1[i]?=μ[i]?:=fun i hi=>by rw [em,List.getElem?_append_left (by rw [lt]; exact hi),List.getElem?_take_of_lt hi]
 have sub:∀ b,b∈μ.take k→b∈μ:=fun b hb=>List.mem_of_mem_take hb
 refine ⟨⟨sr.len,sr.nd,fun n a o h1 h2=>?_⟩,⟨⟨[],by simp,by simp⟩,fun b o hb h=>st.fr b o (fun z=>hb (sub b z)) h,st.tk⟩⟩
 by_cases hn:n<k
 ·have h3:(S.take k)[n]?=some o:=by rw [List.getElem?_take_of_lt hn]; exact h2
  have h4:S1[n]?=some o:=by rw [← e,List.getElem?_take_of_lt hn] at h3; exact h3
  exact (sr1.obj n a o (by rw [g n hn]; exact h1) h4).few g (List.all_eq_true.mp i _ (List.mem_of_getElem? h3))
 ·have out:a∉μ.take k:=fun z=>by
   obtain ⟨j,hj⟩:=List.getElem?_of_mem z
   have jl:j<k:=by have:=(List.getElem?_eq_some_iff.mp hj).1; rw [lt] at this; exact this
   rw [List.getElem?_take_of_lt jl] at hj
   have:=(List.getElem?_inj (List.getElem?_eq_some_iff.mp hj).1 sr.nd).mp (hj.trans h1.symm)
   lia
  obtain ⟨u,hu⟩:=sr.isS (List.mem_of_getElem? h1)
  exact (sr.obj n a o h1 h2).up st.tk ⟨[],by simp⟩ ((st.fr a u out hu).trans hu.symm)
end
theorem zOQ {K:W.Frag}{mg:Str→Option Value}{k n:Nat}{φ:List D→M D}{vs:List V}{H:Hp}{Q:VK}{E:XK} (h:zBn K mg (zCB k φ) n vs H Q E):zBn K mg φ n vs H Q E:=by
 obtain ⟨hl,μ,ds,S,sr,rv,y⟩:=h
 unfold zCB at y
 by_cases hc:(inDs k ds&&(S.take k).all (inO k)&&decide (k≤S.length))=true
 ·rw [if_pos hc] at y
  simp only [Bool.and_eq_true,decide_eq_true_eq] at hc
  obtain ⟨⟨c1,c2⟩,c3⟩:=hc
  have g:∀ i,i<k→μ[i]?=(μ.take k)[i]?:=fun i hi=>by rw [List.getElem?_take_of_lt hi]
  cases e:φ ds (S.take k) with
  | bad=>rw [e] at y; exact ⟨hl,μ,ds,S,sr,rv,y⟩
  | ok d S1 =>
   rw [e] at y
   dsimp only at y
   by_cases hd:(inD 0 d&&eqSb (S1.take k) (S.take k))=true
   ·rw [if_pos hd] at y
    rw [Bool.and_eq_true] at hd
    refine ⟨hl,μ.take k,ds,S.take k,sr.less c2 c3,RVs.few g _ _ c1 rv,?_⟩
    rw [e]
    intro v H' μ1 sr1 st1 r1
    obtain ⟨a1,a2⟩:=sr.back c3 c2 sr1 st1 (zG0 hd.2)
    exact y v H' μ a1 a2 (RV.few (k:=0) (fun i hi=>absurd hi (Nat.not_lt_zero _)) _ _ hd.1 r1)
   ·rw [if_neg hd] at y; exact ⟨hl,μ,ds,S,sr,rv,y⟩
  | er c S1 =>
   rw [e] at y
   dsimp only at y
   by_cases hd:eqSb (S1.take k) (S.take k)=true
   ·rw [if_pos hd] at y
    refine ⟨hl,μ.take k,ds,S.take k,sr.less c2 c3,RVs.few g _ _ c1 rv,?_⟩
    rw [e]
    intro H' μ1 sr1 st1 C hm
    obtain ⟨a1,a2⟩:=sr.back c3 c2 sr1 st1 (zG0 hd)
    exact y H' μ a1 a2 C hm
   ·rw [if_neg hd] at y; exact ⟨hl,μ,ds,S,sr,rv,y⟩
 ·rw [if_neg hc] at y; exact ⟨hl,μ,ds,S,sr,rv,y⟩
open PySem PySem.Spec PyProof.Rows
noncomputable def zAn (X:Cx) (scope:Scope) (N:List Str) (cl:List (Str × Addr)) (s:Shared) (H:Hp) (C:Addr) (ex:List Addr) (xe:Value→Shared→Prop):Cx:={ zAj X scope N cl s H C ex with xe:=xe }
section
variable {X:Cx}{scope:Scope}{N:List Str}{cl:List (Str × Addr)}{s0:Shared}{H0:Hp}{C:Addr}{ex:List Addr}{xe:Value→Shared→Prop}{pins:List (Addr × Obj)}{σ:St}{H:Hp}{s:Shared}
theorem okE (h:(zAj X scope N cl s0 H0 C ex).Ok):(zAn X scope N cl s0 H0 C ex xe).Ok:=⟨h.mod,h.kind,h.glob,h.blt,h.above,h.inj,h.has,h.cab,h.hd,h.frames,h.stk,h.exf,h.bs,h.bsz,h.noex,h.exfs,h.funs,h.frf⟩
theorem okE' (h:(zAn X scope N cl s0 H0 C ex xe).Ok):(zAj X scope N cl s0 H0 C ex).Ok:=⟨h.mod,h.kind,h.glob,h.blt,h.above,h.inj,h.has,h.cab,h.hd,h.frames,h.stk,h.exf,h.bs,h.bsz,h.noex,h.exfs,h.funs,h.frf⟩
theorem invE (I:Inv (zAj X scope N cl s0 H0 C ex) pins σ H s):Inv (zAn X scope N cl s0 H0 C ex xe) pins σ H s:=⟨okE I.ok,I.os,I.bare,I.base,I.loc,I.cell,I.free,I.freeC,I.pin,I.hok,I.len⟩
theorem invE' (I:Inv (zAn X scope N cl s0 H0 C ex xe) pins σ H s):Inv (zAj X scope N cl s0 H0 C ex) pins σ H s:=⟨okE' I.ok,I.os,I.bare,I.base,I.loc,I.cell,I.free,I.freeC,I.pin,I.hok,I.len⟩
end
theorem zJW {Y:Cx}{elt iter tg:Expr}{ifs:List Expr}{scope:Scope}{pos:Pos}{g:TG}{tc:TT}{te:TE}{J:It}{fp:List Addr}{it D:Addr}{tn:Nat→Heap→Prop}{σ0:St}{W:Nat→Nat→List V→Hp→Prop}{Q:Hp→Prop}{R:Result→Shared→Prop}
  (hc:Y.calm=true) (hx:∀ e s',Y.xe e s'→notedBy (model Y.prog Y.w) Y.A Y.env (fun e s'=>R (.error e) s') e s') (T:Turn Y.prog Y.w Y.K tg J fp it tn) (stat:∀ H',(∀ b∈fp,H' b=none)→∀ b∈fp,FpOk Y [] H' b)
  (hg:PG Y tg g) (htc:PTs Y ifs tc) (hte:PE Y elt te) (turn:∀ i m ys H2,W i m ys H2→zMW J D W Q g tc te σ0 i m ys H2) (fin:∀ H4 s5,Inv Y [] σ0 H4 s5→Q H4→R (.ok .next) s5)
  {s:Shared}{n:Nat} (h0:CInv Y σ0 tn fp W n s) (st3:tn 0 s.heap):codeAny (model Y.prog Y.w) Y.A (.compStart (.ListComp elt [⟨tg,iter,ifs,0⟩] scope pos) 0 (.ref it) (.ref D) Y.env) R s:=by
 have loop:codeAny (model Y.prog Y.w) Y.A (.compLoop (.ListComp elt [⟨tg,iter,ifs,0⟩] scope pos) 0 (.ref it) (.ref D) Y.env) R s:=by
  refine zEn (CInv Y σ0 tn fp W) ?_ n h0
  rintro n s4 ⟨i,ys,H4,I4,st4,fr4,w4⟩
  obtain ⟨hD4,hd⟩:=turn i n ys H4 w4
  rcases hd with ⟨stop,q⟩ | ⟨go,hz,step⟩
  ·refine thn (T.done Y rfl rfl rfl hc i [] s4 _ H4 _ I4 (stat _ fr4) st4 stop) fun r s5 ⟨hr,I5⟩=>?_
   subst hr
   exact fin H4 s5 I5 q
  ·refine thn (T.item Y rfl rfl rfl hc i [] s4 _ H4 _ I4 (stat _ fr4) st4 go) fun r s5 ⟨u,hr,h5⟩=>?_
   subst hr
   refine thn h5 fun _ s6 ⟨x,H6,I6,r6,y6,st6,fr6⟩=>?_
   have I6':=I6.pinned (stat _ fr6) (T.obj _ _ st6)
   have back:∀ {σ7:St}{H7:Hp}{s7:Shared}{m:Nat}{zs:List V},Inv Y ([]++zFl fp s6.heap) σ7 H7 s7→zGj σ0 σ7→W (i+1) m zs H7→CInv Y σ0 tn fp W m s7:=fun {σ7 H7 s7 m zs} I7 hw w7=>by
    refine ⟨i+1,zs,H7,I7.unpinned.weak hw.1 hw.2,T.keep _ _ _ st6 fun b hb o e=>(I7.pin (b,o) (List.mem_append_right _ (List.mem_append_right _ (zAS hb e)))).1,fun b hb=>?_,w7⟩
    obtain ⟨o,e,d⟩:=T.obj _ _ st6 b hb
    exact (I7.pin (b,o) (List.mem_append_right _ (List.mem_append_right _ (zAS hb e)))).2.1
   have no:=hx
   refine wpAny_mono (hg _ s6 _ H6 x u _ I6' r6 (step x H6 y6)) (fun _ s7 ⟨σ7,H7,I7,hw7,q7⟩=>?_) no
   refine wpAny_mono (htc _ s7 σ7 H7 _ I7 q7) (fun b s8 ⟨H8,I8,q8⟩=>?_) no
   cases b with
   | false =>
    obtain ⟨m',hm,w8⟩:=(by simpa using q8)
    exact ⟨m',hm,back I8 hw7 w8⟩
   | true =>
    refine wpAny_mono (hte _ s8 σ7 H8 _ I8 q8) (fun y s9 ⟨vy,H9,I9,r9,q9⟩=>?_) no
    obtain ⟨hD9,m',hm,w9⟩:=q9
    refine wpAny_mono (zE1 _ s9 σ7 H9 (.ref D) [vy] (.ref D) [y] (fun _ H'=>W (i+1) m' (ys++[vy]) H') I9 rfl (.cons r9 .nil) ⟨_,ys,vy,rfl,rfl,hD9,hz,w9⟩) (fun z s10 ⟨_,H10,I10,_,q10⟩=>?_) no
    exact ⟨m',hm,back I10 hw7 q10⟩
 exact codeAny_compStart_list loop (T.self _ 0 _ _ _ st3 loop)
section
variable {X:Cx}{scope:Scope}{N:List Str}{pins:List (Addr × Obj)}{σ:St}
noncomputable def xeOf (X:Cx) (scope:Scope) (cl:List (Str × Addr)) (C:Addr) (R:Result→Shared→Prop):Value→Shared→Prop:=notedBy (model X.prog X.w) X.A (compEnvC scope cl C X.env) (fun e s'=>R (.error e) s')
theorem zMj {elt iter tg:Expr}{ifs:List Expr}{pos:Pos}{k:Nat}{js:List Nat}{g:TG}{tc:TT}{te:TE}{J:It}{fp:List Addr}{it:Addr}{tn:Nat→Heap→Prop}{H2:Hp}{s2:Shared}{RR:Value→Addr→Result→Shared→Prop}{Q:V→Hp→Prop}
  (B:zHE X scope N k js) (I2:Inv X pins σ H2 s2) (T:Turn X.prog X.w X.K tg J fp it tn) (st2:tn 0 s2.heap) (f2:∀ b∈fp,FpOk X pins H2 b)
  (hg:∀ cl s H C ex xe,PG (zAn X scope N cl s H C ex xe) tg g) (htc:∀ cl s H C ex xe,PTs (zAn X scope N cl s H C ex xe) ifs tc)
  (hte:∀ cl C,s2.heap.objs.size≤C→s2.heap.objs.size≠C→PE (zAn X scope N cl s2 H2 C fp (xeOf X scope cl C (RR (.ref s2.heap.objs.size) C))) elt te)
  (hW:∀ D,H2 D=none→∃ W:Nat→Nat→List V→Hp→Prop,(∃ m,W 0 m [] (upd H2 D (.lst [])))∧∀ i m ys H2,W i m ys H2→zMW J D W (Q (.ref D)) g tc te (stC k js σ) i m ys H2)
  (fin:∀ cl C H4 s5,s2.heap.objs.size≤C→s2.heap.objs.size≠C→Inv (zAj X scope N cl s2 H2 C fp) [] (stC k js σ) H4 s5→Q (.ref s2.heap.objs.size) H4→RR (.ref s2.heap.objs.size) C (.ok .next) s5) :
  wpAny (model X.prog X.w) X.A (newList []) (fun acc s3=>wpAny (model X.prog X.w) X.A (newFunctionEnv scope X.env.globals (clOf X.env scope.names []) [] X.env.qual none .none (some X.env)) (fun cenv s4 =>
   codeAny (model X.prog X.w) X.A (.compStart (.ListComp elt [⟨tg,iter,ifs,0⟩] scope pos) 0 (.ref it) acc { cenv with scope:=relabel scope X.env }) (RR acc cenv.locals) s4) X.xe s3) X.xe s2:=by
 obtain ⟨W,⟨m0,w0⟩,turn⟩:=hW s2.heap.objs.size (I2.hok.fresh (Nat.le_refl _))
 refine zFy B I2 T st2 f2 fun cl C s4 h1 h2 I4 st4=>?_
 have ok:=I4.ok
 refine zJW (Y:=zAn X scope N cl s2 H2 C fp (xeOf X scope cl C (RR (.ref s2.heap.objs.size) C))) B.calm (fun e s' z=>z) T (fun H' hn b hb=>⟨hn b hb,(ok.exf b hb).1,ok.exfs b hb,.inl hb,(ok.exf b hb).2,fun p hp=>by cases hp⟩) (hg _ _ _ _ _ _) (htc _ _ _ _ _ _) (hte _ _ h1 h2) turn (fun H4 s5 I5 q=>fin cl C H4 s5 h1 h2 (invE' I5) q) ⟨0,[],_,invE I4,st4,fun b hb=>?_,w0⟩ st4
 obtain ⟨o,e,_⟩:=T.obj _ _ st2 b hb
 rw [zA5 (Nat.ne_of_lt (Heap.lt_size e))]
 exact (f2 b hb).1
end
open PySem PySem.Spec PyProof.Rows
section
variable {M:Model}{A:Around}{E:Value→Shared→Prop}{s:Shared}{e T:Addr}{cls:Value}
theorem zNM {what:String}{cenv:Env}{α:Type}{Q:α→Shared→Prop} (ht:TrcA s.heap e T cls)
  (hE:∀ h',(∀ b,b≠T→h'.get? b=s.heap.get? b)→(∃ o',h'.get? T=some o')→TrcA h' e T cls→E (.ref e) { s with heap:=h' }):wpAny M A (PySem.passOn what (.ref e) cenv:Sem α) Q E s:=by
 obtain ⟨oe,vs,oT,ts,v,he,rfl,hd,h1,nT,hT,hdT,h3⟩:=ht
 have t3:=(Array.getElem?_eq_some_iff.mp h3).1
 unfold PySem.passOn
 refine wpAny_bind (wpAny_field he hd h1 ?_)
 rw [if_neg (show ¬(Value.ref T == Value.none)=true from by simp)]
 unfold setFlight
 refine wpAny_bind (wpAny_bind (wpAny_field he hd h1 ?_))
 rw [if_pos (show (Value.ref T != Value.none)=true from by simp)]
 refine wpAny_setField hT hdT t3 (wpAny_throw (hE _ (fun b hb=>Heap.get?_update_other _ _ (Ne.symm hb)) ⟨_,Heap.get?_update_self _ hT (Obj.isFreed_of_fields (Obj.data_mapFields hdT _))⟩ ?_))
 exact ⟨oe,vs,_,_,_,(Heap.get?_update_other _ _ nT).trans he,rfl,hd,h1,nT,Heap.get?_update_self _ hT (Obj.isFreed_of_fields (Obj.data_mapFields hdT _)),Obj.data_mapFields hdT _,by simp [t3]; rfl⟩
end
section
variable {X:Cx}{scope:Scope}{N:List Str}{cl:List (Str × Addr)}{C:Addr}{fp:List Addr}{pins:List (Addr × Obj)}{σ:St}{H2:Hp}{s2:Shared}{Q:Value→Shared→Prop}{acc:Value}
theorem zK9 (hst:X.stack=X.env::X.outer) (hfr:X.env.frame=some X.env.locals) (I2:Inv X pins σ H2 s2) (f2:∀ b∈fp,FpOk X pins H2 b) (hC:s2.heap.objs.size≤C) :
  zB1 (CX1 X.prog X.w) (zAn X scope N cl s2 H2 C fp (xeOf X scope cl C (compPost (model X.prog X.w) X.A X.xe none Q acc C))) (EX X):=by
 intro pins' σ' H s ev s' I h
 obtain ⟨e,T,Cc,H',rfl,tr,ne,nT,os,bare,un,hok,he,hT,hE⟩:=h
 have I':=I.call' os un hok bare fun b z=>absurd z (by simp)
 have fl:=I'.stack
 have fr:=I'.ok.frames
 have fl:s'.heap.FunFrames X.base (X.env::X.outer):=by rw [← hst]; exact fl
 have fr:X.A.frames=some (X.env::X.outer):=by rw [← hst]; exact fr
 have here:∀ b o,s2.heap.get? b=some o→b∉fp→∃ o',s.heap.get? b=some o':=fun b o q hb=>I.base.there b o q hb
 have old:∀ b,s.heap.get? b=none→b∈fp∨s2.heap.get? b=none:=fun b hb=>by
  by_cases hf:b∈fp
  ·exact .inl hf
  ·cases q:s2.heap.get? b with
   | none=>exact .inr rfl
   | some o =>
    obtain ⟨o',q'⟩:=here b o q hf
    rw [hb] at q'; cases q'
 obtain ⟨m,hn,_⟩:=id I'.loc
 have hn:s'.heap.Ns C m:=hn
 obtain ⟨oC,es,ep,hC1,hC2⟩:=id hn
 have Cs:=I.loc
 obtain ⟨m0,hn0,_⟩:=Cs
 obtain ⟨oC0,_,_,hC0,_⟩:=id hn0
 have Ce:C≠e:=fun z=>by
  have:s.heap.get? C=some oC0:=hC0
  rw [z,ne] at this; cases this
 have CT:C≠T:=fun z=>by
  have:s.heap.get? C=some oC0:=hC0
  rw [z,nT] at this; cases this
 have frold:∀ b∈frs (X.env::X.outer),b<s2.heap.objs.size:=fun b hb=>by
  have f3:=I2.stack
  rw [hst] at f3
  obtain ⟨_,o,ho,_⟩:=f3.mem hb
  exact Heap.lt_size ho
 have Cf:C∉frs (X.env::X.outer):=fun z=>absurd (frold C z) (Nat.not_lt.mpr hC)
 show wpAny _ _ (noteFrame (.ref e) (compEnvC scope cl C X.env)) _ _ _
 rw [zEO (env:=X.env) (e:=.ref e) (env':=compEnvC scope cl C X.env) rfl]
 refine zNV fr fl hfr tr fun h' T' k1 k2 k3 k4 t'=>?_
 have hnC:h'.Ns C m:=hn.at fun o q=>k1 C o q (by simp [Ce,CT]) Cf
 refine ⟨m,hnC,fun h'' sb cenv hce=>?_⟩
 have T'n:s'.heap.get? T'=none:=by
  cases q:s'.heap.get? T' with
  | none=>rfl
  | some o=>exact absurd (Heap.lt_size q) (Nat.not_lt.mpr k4)
 have CT':C≠T':=fun z=>by rw [z,T'n] at hC1; cases hC1
 have t2:TrcA h'' e T' Cc:=by
  obtain ⟨oe,vs,oT,ts,v,q1,q2,q3,q4,q5,q6,q7,q8⟩:=t'
  exact ⟨oe,vs,oT,ts,v,(sb.2 e (Ne.symm Ce)).trans q1,q2,q3,q4,q5,(sb.2 T' (Ne.symm CT')).trans q6,q7,q8⟩
 refine zNM t2 fun h3 p1 p2 t3=>?_
 have T'H:H' T'=none:=I'.hok.fresh k4
 have olds:∀ b o,s2.heap.get? b=some o→b∉fp→b≠e∧b≠T∧b≠C∧b≠T':=fun b o q hf=>by
  obtain ⟨o1,q1⟩:=here b o q hf
  refine ⟨fun z=>?_,fun z=>?_,Nat.ne_of_lt (Nat.lt_of_lt_of_le (Heap.lt_size q) hC),fun z=>?_⟩
  ·rw [z,ne] at q1; cases q1
  ·rw [z,nT] at q1; cases q1
  ·obtain ⟨o2,q2⟩:=I'.base.there b o q hf
   rw [z,T'n] at q2; cases q2
 have U:=I'.base
 refine hE.2.2 pins σ H2 s2 e T' _ fp I2 t3 (old e ne) (.inr ?_) I'.os I'.bare ⟨fun b o q n hb hx=>?_,fun b o q n hb hx=>?_,U.free,fun b o q hx=>?_,U.tups,U.frzs,U.tbls⟩ (fun b hb=>⟨(f2 b hb).2.2.2.1,(f2 b hb).2.1,(f2 b hb).2.2.2.2.1,(f2 b hb).2.2.2.2.2⟩) ?_ he T'H
 ·cases q:s2.heap.get? T' with
  | none=>rfl
  | some o=>exact absurd (Nat.lt_of_lt_of_le (Heap.lt_size q) (Nat.le_trans I'.sz (Nat.le_refl _))) (Nat.not_lt.mpr k4)
 ·obtain ⟨n1,n2,n3,n4⟩:=olds b o q hx
  have q1:=U.keep b o q n hb hx
  exact (p1 b n4).trans ((sb.2 b n3).trans (k1 b o q1 (by simp [n1,n2]) (by rw [← hst]; exact hb)))
 ·obtain ⟨n1,n2,n3,n4⟩:=olds b o q hx
  obtain ⟨sl,q1⟩:=U.slot b o q n hb hx
  obtain ⟨sl',q2⟩:=k2 b _ q1 (by simp [n1,n2])
  exact ⟨sl',(p1 b n4).trans ((sb.2 b n3).trans q2)⟩
 ·obtain ⟨n1,n2,n3,n4⟩:=olds b o q hx
  obtain ⟨o1,q1⟩:=U.there b o q hx
  obtain ⟨o2,q2⟩:=k3 b o1 q1
  exact ⟨o2,(p1 b n4).trans ((sb.2 b n3).trans q2)⟩
 ·intro b u q
  refine (I'.hok b u q).stay (fun c w' hcc q'=>?_) (fun _ q'=>q') fun _ _ q'=>q'
  have hs:∃ z,H' c=some z:=by
   rcases hcc with rfl | hcc
   ·exact ⟨u,q⟩
   ·exact ⟨_,hcc⟩
  obtain ⟨z,hz⟩:=hs
  have nn:∀ d:Addr,H' d=none→c≠d:=fun d hd y=>by rw [y,hd] at hz; cases hz
  refine (p1 c (nn T' T'H)).trans ((sb.2 c (nn C I'.free)).trans (k1 c w' q' (by simp [nn e he,nn T hT]) fun y=>?_))
  exact nn c (I'.stkFree c (by show c∈frs X.stack; rw [hst]; exact y)) rfl
end
open PySem PySem.Spec PyProof.Rows
section
variable {X:Cx}
noncomputable def oInS:D→D→M D:=fun x y S=>match x,y with
 | .str i,.str j=>.ok (.bl (!(Builtin.Str.occurrences j i 0 j.length 1).isEmpty)) S
 | _,_=>oIn false x y S
theorem os_inS (hu:X.A.units+64<cLine):OpS X.K (rAny X (compareOp .In)) oInS:=by
 intro x y S d S' H μ v u Q e sr rx ry h
 unfold oInS at e
 split at e
 ·cases e
  unfold RV at rx ry
  subst rx ry
  exact ⟨_,zLa,_,_,rfl,rfl,h.self sr zBE⟩
 ·exact os_in hu _ _ _ _ _ _ _ _ _ _ e sr rx ry h
theorem zQJ:OpR X (binaryOp .Mult) (fun x y H Q=>∃ z k,x=.str z∧y=.int k∧z.length≤16∧0≤k∧k≤1000∧Q (.str (Txt.mul z k)) H):=by
 intro pins s σ H x y v u Q I rx ry h
 obtain ⟨z,k,rfl,rfl,h1,h2,h3,q⟩:=h
 obtain ⟨t,rfl⟩:=rx
 obtain ⟨t',rfl⟩:=ry
 exact SB.mul (mulOk_of 16 1048576 (by lia) (by lia) (by lia) (by decide) (by decide)) fun t' k'=>⟨.str _,H,I.tok k',⟨_,rfl⟩,q⟩
noncomputable def zLg:D→D→M D:=fun x y S=>match x,y with
 | .str z,.int k=>if z.length≤16∧0≤k∧k≤1000 then .ok (.str (Txt.mul z k)) S else .bad
 | _,_=>oMul x y S
theorem zQH:OpS X.K (rAny X (binaryOp .Mult)) zLg:=by
 intro x y S d S' H μ v u Q e sr rx ry h
 unfold zLg at e
 split at e
 ·split at e
  ·rename_i hc
   cases e
   unfold RV at rx ry
   subst rx ry
   exact ⟨_,zQJ,_,_,rfl,rfl,hc.1,hc.2.1,hc.2.2,h.self sr zBb⟩
  ·cases e
 ·exact os_mul _ _ _ _ _ _ _ _ _ _ e sr rx ry h
noncomputable def zJ2:D→List D→M D:=fun x xs S=>match x,xs with
 | .str z,[.str y]=>.ok (.bl (zP3 z y)) S
 | _,_=>.bad
theorem zO1:MtS X.K "str" (zBF X "str.startswith") zJ2:=by
 intro x xs S d S' H μ v us Q e sr rx rs y
 unfold zJ2 at e
 split at e
 ·cases e
  unfold RV at rx; subst rx
  obtain ⟨u,rfl,ru⟩:=rs.one
  unfold RV at ru; subst ru
  exact ⟨_,zNY,_,_,rfl,rfl,y.self sr zBE⟩
 ·cases e
open Builtin Builtin.Str in
noncomputable def zFR:D→List D→M D:=fun x xs S=>match x,xs with
 | .str z,[.str y,.int k]=>if ((decide (k < -(2 ^ 63:Int))||decide (k≥2 ^ 63))=false)∧(y.length == 0)=false∧z.length≤lim∧(partsBetween z (occurrences z y 0 z.length (limitOf z k)) y.length).length≤lim then .ok (.lst S.length) (S++[.lst ((zIO z y k).map D.str)]) else .bad
 | _,_=>.bad
theorem zLo:MtS X.K "str" (zBF X "str.split") zFR:=by
 intro x xs S d S' H μ v us Q e sr rx rs y
 unfold zFR at e
 split at e
 ·split at e
  ·rename_i hc
   cases e
   unfold RV at rx; subst rx
   obtain ⟨u,u2,rfl,ru,ru2⟩:=rs.two
   unfold RV at ru ru2; subst ru ru2
   refine ⟨_,zLm,_,_,_,rfl,rfl,hc.1,hc.2.1,zBc hc.2.2.1,zBc hc.2.2.2,fun p hp=>?_⟩
   obtain ⟨s1,s2⟩:=sr.push (o:=.lst _) (o':=.lst _) hp ⟨_,zA4,zDK _⟩
   exact y _ _ _ s1 s2 (by unfold RV; exact ⟨p,rfl,by rw [← sr.len,List.getElem?_append_right (Nat.le_refl _),Nat.sub_self]; rfl⟩)
  ·cases e
 ·cases e
end
open PySem PySem.Spec PyProof.Rows
section
variable {X:Cx}
theorem zK3:zAw X (.type "dict") (fun vs H Q=>∃ a kvs,vs=[.ref a]∧H a=some (.dK kvs)∧∀ p,H p=none→Q (.ref p) (upd H p (.dK kvs))):=by
 intro pins s σ H xs us Q I rv h
 obtain ⟨a,kvs,rfl,ha,q⟩:=h
 obtain ⟨u,rfl,ru⟩:=rv.one
 cases ru
 exact zON I (.inl ha) fun p s' hp I'=>⟨.ref p,_,I',rfl,q p hp⟩
noncomputable def zFw:List D→M D:=fun xs S=>match xs with
 | [.dct n]=>match S[n]? with
  | some (.dk kvs)=>.ok (.dct S.length) (S++[.dk kvs])
  | _=>.bad
 | _=>fDict xs S
theorem zJh (hc:X.calm=true):zBX X.K (cAny X (.type "dict")) zFw:=by
 intro xs S d S' H μ vs Q e sr rx h
 unfold zFw at e
 split at e
 ·split at e
  ·rename_i kvs e1
   cases e
   obtain ⟨v,rfl,r⟩:=rx.one
   unfold RV at r
   obtain ⟨a,rfl,hm⟩:=r
   obtain ⟨ws,hp,rr⟩:=sr.get hm e1
   refine ⟨_,zK3,a,ws,rfl,hp,fun p hp=>?_⟩
   obtain ⟨s1,s2⟩:=sr.push (o:=.dK ws) (o':=.dk _) hp ⟨ws,zA4,rr.1,RVs.up (zDO hp) ⟨[p],rfl⟩ _ _ rr.2⟩
   exact h _ _ _ s1 s2 (by unfold RV; exact ⟨p,rfl,by rw [← sr.len,List.getElem?_append_right (Nat.le_refl _),Nat.sub_self]; rfl⟩)
  ·cases e
 ·exact cs_dict hc _ _ _ _ _ _ _ _ e sr rx h
end
open PySem PySem.Spec PyProof.Rows
def leS (a b:Str):Prop:=¬ b.cps.toList<a.cps.toList
theorem leS.trans {a b c:Str} (h:leS a b) (k:leS b c):leS a c:=by
 unfold leS at *
 rw [List.not_lt] at *
 exact List.le_trans h k
theorem leS.anti {a b:Str} (h:leS a b) (k:leS b a):a=b:=by
 unfold leS at *
 rw [List.not_lt] at *
 have:=List.le_antisymm h k
 cases a; cases b
 simpa using this
theorem zGC:∀ (l:List Str) (p:Str),risingS p l=true→(p::l).Pairwise leS
 | [],p,_=>List.pairwise_singleton _ _
 | x::l,p,h=>by
  unfold risingS at h
  rw [Bool.and_eq_true,Bool.not_eq_true',ltCps_eq,decide_eq_false_iff_not] at h
  have ih:=zGC l x h.2
  refine List.pairwise_cons.mpr ⟨fun y hy=>?_,ih⟩
  rcases List.mem_cons.mp hy with rfl | hy
  ·exact h.1
  ·exact leS.trans h.1 ((List.pairwise_cons.mp ih).1 y hy)
theorem zFe {l:List Str} (h:sortedS l=true):l.Pairwise leS:=by
 cases l with
 | nil=>exact List.Pairwise.nil
 | cons x l=>exact zGC l x h
theorem zGv {l m:List Str} (h:sortedS l=true) (k:sortedS m=true) (p:m.Perm l):m=l :=
 p.eq_of_pairwise (fun _ _ _ _ h1 h2=>leS.anti h1 h2) (zFe k) (zFe h)
section
variable {prog:Program}{w:World}{A:Around}{E:Value→Shared→Prop}{s:Shared}{r:Addr}
theorem zJv {Q:Value→Shared→Prop}{ns:List Str} (hl:ns.length<64)
  (hc:∀ (A:Around) (E:Value→Shared→Prop) (R:List Value→Shared→Prop),A.handled=none→(∀ (h':Heap) (tk:Nat) (us:List Value),(∀ b o,s.heap.get? b=some o→h'.get? b=some o)→StrsAre us ns→R us { s with heap:=h',toks:=tk })→wpAny (model prog w) A (collect (.ref r)) R E s)
  (hh:A.handled=none)
  (h:∀ (h1:Heap) (l:Addr) (h':Heap) (tk:Nat) (e:Nat) (us:List Value) (ms:List Str),(∀ b o,s.heap.get? b=some o→h1.get? b=some o)→(∀ b o,h1.get? b=some o→h'.get? b=some o)→h1.objs.size≤l→h'.get? l=some (seqObj "list" us.toArray e)→StrsAre us ms→ms.Perm ns→sortedS ms=true→Q (.ref l) { s with heap:=h',toks:=tk }) :
  wpAny (model prog w) A (call (.builtin "sorted") [.ref r]) Q E s:=by
 refine Calls.call_function_entry kind_sorted plain_sorted entry_sorted (args_sorted1 _) ?_
 unfold Builtin.«sorted»
 refine wpAny_bind (m:=checkCount "sorted" 1 1 _) (wpAny_pure ?_)
 refine wpAny_bind (hc _ _ _ hh fun h' tk us hk hi=>?_)
 have hlen:us.length=ns.length:=by rw [← hi.strs,List.length_map]
 refine wpAny_bind (wpAny_newList ?_ (by rw [hlen,sizeLine_eq]; lia))
 have hoL:(h'.push (seqObj "list" us.toArray 0)).get? h'.objs.size=some (seqObj "list" us.toArray 0):=Heap.get?_push_size _ rfl
 show wpAny _ _ _ _ _ { s with heap:=h'.push (seqObj "list" us.toArray 0),toks:=tk }
 refine wpAny_bind (wpAny_holding (wpAny_call_entry slot_list_sort ⟨_,hoL,rfl⟩ entry_list_sort (list_sort_treeK strKind_oneLt hoL hi.keysOf (fun v₁ v₂ rest e=>keyKind_strs (by rw [← e]; exact hi)) (by lia) fun st' hp hs=>⟨_,rfl,?_⟩) (args_list_sort _)))
 obtain ⟨ss',a1,a2,a3⟩:=sorted_out_str hi hp hs
 obtain ⟨e,he⟩:=sortedHeap_at (out:=(arrOf st').map (·.2)) hoL
 refine wpAny_pure ⟨_,rfl,h h' h'.objs.size _ tk e ((arrOf st').map (·.2)).toList ss' hk (fun b o g=>?_) (Nat.le_refl _) (by rw [Array.toArray_toList]; exact he) a1 a2 a3⟩
 have lt:b<h'.objs.size:=Heap.lt_size g
 rw [sortedHeap_old (Nat.ne_of_lt lt) (by rw [size_push']; exact Nat.lt_succ_of_lt lt)]
 exact Heap.get?_push_of_some _ g
end
theorem zKA:∀ (us:List Value) (ns:List Str),us.length=ns.length→(∀ (j:Nat) (v:Value) (n:Str),us[j]?=some v→ns[j]?=some n→∃ t,v=.str n t)→StrsAre us ns
 | [],[],_,_=>.nil
 | [],_::_,h,_=>by cases h
 | _::_,[],h,_=>by cases h
 | u::us,n::ns,h,k=>by
  obtain ⟨t,rfl⟩:=k 0 u n rfl rfl
  exact .cons n t (zKA us ns (by simpa using h) fun j v m e1 e2=>k (j+1) v m (by simpa using e1) (by simpa using e2))
theorem zGt:∀ {us:List Value}{ns:List Str},StrsAre us ns→Vals (ns.map V.str) us
 | _,_,.nil=>.nil
 | _,_,.cons n t h=>.cons ⟨t,rfl⟩ (zGt h)
theorem zG8 {X:Cx} (hc:X.calm=true):zAw X (.builtin "sorted") (fun vs H Q=>∃ (p:Addr) (kvs:List (Key × V)) (ns:List Str),vs=[.ref p]∧H p=some (.dK kvs)∧kvs.map (·.1)=ns.map Sum.inr∧ns.length<64∧sortedS ns=true∧∀ (l:Addr),H l=none→Q (.ref l) (upd H l (.lst (ns.map V.str)))):=by
 intro pins s σ H xs us Q I r h
 obtain ⟨p,kvs,ns,rfl,hp,hk,hn,hs,q⟩:=h
 obtain ⟨u,rfl,ru⟩:=zBm r
 cases ru
 obtain ⟨hz,lo,vs,kv,dd⟩:=zOM I.hok hp
 obtain ⟨ep,hat⟩:=dd.dictAt
 have hl:vs.length=ns.length:=by rw [← Paired.length kv,← List.length_map,hk,List.length_map]
 refine zJv hn (fun A E R hA hR=>W.kdu_collect (W.kdl_dict lo) hA hat (by rw [hl,sizeLine_eq]; lia) fun h' tk acc hk2 hacc=>hR h' tk _ hk2 ?_) (I.ok.hd hc) fun h2 l2 h3 tk3 e us ms k2 k3 le g3 hi hpm hw=>?_
 ·refine zKA _ _ (by rw [Array.length_toList,hacc.1,hl]) fun j v n e1 e2=>?_
  obtain ⟨k,x,e3,e4⟩:∃ k x,vs[j]?=some (k,x)∧(zA8 X.prog X.w).is k v=true:=hacc.2 j v (by rw [← Array.getElem?_toList]; exact e1)
  obtain ⟨q1,e5,e6,_⟩:=zFn kv e3
  have e7:(kvs.map (·.1))[j]?=some k:=by rw [List.getElem?_map,e5]; exact congrArg some e6
  rw [hk,List.getElem?_map,e2] at e7
  cases e7
  cases v <;> first | exact absurd e4 Bool.false_ne_true | skip
  rename_i i t
  have:=by simpa [zA8,zGT,Value.isStrOf] using e4
  subst this
  exact ⟨t,rfl⟩
 ·have I2:Inv X pins σ H { s with heap:=h2,toks:=tk3 }:=I.kept (t':=tk3) fun b o e=>k2 b o e
  have em:=zGv hs hw hpm
  subst em
  refine ⟨.ref l2,_,I2.laid (t':=tk3) k3 le ?_,rfl,q _ (I2.hok.fresh le)⟩
  exact ⟨by rw [List.length_map]; exact Nat.le_trans (Nat.le_of_lt hn) (by decide),us,e,zGt hi,by simpa using g3⟩
noncomputable def zPV:List (Key × D)→Option (List Str)
 | []=>some []
 | (.inr n,_)::r=>(zPV r).map (n::·)
 | _=>none
theorem zIQ:∀ {kvs:List (Key × D)}{ns:List Str},zPV kvs=some ns→kvs.map (·.1)=ns.map Sum.inr
 | [],ns,h=>by cases h; rfl
 | (.inr n,_)::r,ns,h=>by
  obtain ⟨ms,e,rfl⟩:=Option.map_eq_some_iff.mp h
  rw [List.map_cons,List.map_cons,zIQ e]
 | (.inl n,_)::r,ns,h=>by cases h
noncomputable def zD0:List D→M D:=fun xs S=>match xs with
 | [.dct n]=>match S[n]? with
  | some (.dk kvs)=>match zPV kvs with
   | some ss=>if ss.length<64∧sortedS ss=true then .ok (.lst S.length) (S++[.lst (ss.map D.str)]) else .bad
   | none=>.bad
  | _=>.bad
 | _=>zId xs S
theorem zJV {X:Cx} (hc:X.calm=true) (hu:X.A.units+64<cLine):zBX X.K (cAny X (.builtin "sorted")) zD0:=by
 intro xs S d S' H μ vs Q e sr rx h
 unfold zD0 at e
 split at e
 ·split at e
  ·rename_i kvs e1
   split at e
   ·rename_i ss e2
    split at e
    ·rename_i hs
     cases e
     obtain ⟨v,rfl,r⟩:=rx.one
     unfold RV at r
     obtain ⟨a,rfl,hm⟩:=r
     obtain ⟨ws,hp,rr⟩:=sr.get hm e1
     refine ⟨_,zG8 hc,a,ws,ss,rfl,hp,rr.1.symm.trans (zIQ e2),hs.1,hs.2,fun p hp=>?_⟩
     obtain ⟨s1,s2⟩:=sr.push (o:=.lst _) (o':=.lst _) hp ⟨_,zA4,zDK ss⟩
     exact h _ _ _ s1 s2 (by unfold RV; exact ⟨p,rfl,by rw [← sr.len,List.getElem?_append_right (Nat.le_refl _),Nat.sub_self]; rfl⟩)
    ·cases e
   ·cases e
  ·cases e
 ·exact zMg hc hu _ _ _ _ _ _ _ _ e sr rx h
open PySem PySem.Spec PyProof.Rows
noncomputable def zCY:List (Str × List Str):=[("net",["N","TEXT"]),("nets",[]),("show",["A"]),("function",["A"]),("lets",["A","S"]),("shut",["A","S"]),("pieces",["A","S"]),("row",["A","B","N"]),("side",["A","B","N"]),("about",["A","N"]),("cut",["A","C","N"]),("bridge",["A","C","N"]),("trim",["A","N"]),("alike",["A","B"]),("fewest",["A"]),("ways",["A"]),("bars",["A"])]
def KTup (K:W.Frag) (p:Addr) (ts:List Str):Prop:=∃ (o:Obj) (its:Array Value) (n:Nat),K.lookup p=some o∧o.cls=.type "tuple"∧o.data=.seq its n∧its.size≤sizeLine∧Vals (ts.map V.str) its.toList
structure FmIn (w:World) (K:W.Frag) (mg:Str→Option Value):Prop where
 ex:∃ (a:Addr) (o:Obj) (kvs:List (Key × Value)),mg "FORMS"=some (.ref a)∧(a == sysModules)=false∧K.lookup a=some o∧o.cls=.type "dict"∧o.dict=none∧(∀ P (h:Heap),h.get? a=some o→h.DictOf (zA8 P w) a kvs) ∧
  ∀ z,match zCY.lookup z with
   | some ts=>∃ p,valueAt kvs (.inr z)=some (.ref p)∧KTup K p ts
   | none=>valueAt kvs (.inr z)=none
section
variable {X:Cx}{a:Expr}{ta:TA}{ca:C}{np apos cpos:Pos}
noncomputable def tForms (K:W.Frag) (ta:TA):TE:=fun σ H Q=>ta σ H fun vs H1=>∃ z,vs=[.str z]∧match zCY.lookup z with
 | some ts=>∀ p,KTup K p ts→Q (.ref p) H1
 | none=>Q .non H1
theorem zNJ (F:FmIn X.w X.K X.mg) (hg:Gl X "FORMS") (ha:PA X [a] ta) (hs:starEach [a] X.env=[(false,eval a X.env)])
  (hfew:((backTo cpos (starEach [a] X.env)).all (fun x=>!x.1)&&(backToKw cpos (keywordEach [] X.env)).all (fun x=>x.1.isSome)
   && decide ([a].length+([]:List Keyword).length+(if ([]:List Keyword).isEmpty then 0 else 1)<30))=true)
  (hline:(apos.endLine == cpos.line)=true):PE X (.Call (.Attribute (.Name "FORMS" np) "get" apos) [a] [] cpos) (tForms X.K ta):=by
 intro pins s σ H Q I h
 obtain ⟨d,o,kvs,hm,hsys,lk,hc,hd,dic,val⟩:=F.ex
 have g:=zHP (pos:=np) (v:=.ref d) hg hm rfl (by decide) pins s σ H (fun v H1=>v=.ref d∧H1=H) I ⟨rfl,rfl⟩
 refine wpAny_Call_method_late rfl hfew hline rfl (thn g fun v s1 ⟨x,H1,I1,r1,ex,eh⟩=>?_)
 subst ex eh
 cases r1
 have ho:s1.heap.get? d=some o:=I1.kIn _ _ lk
 refine ⟨"dict","dict.get",PySem.F.plainAttrs_dict,PySem.F.slot_dict_get,PySem.F.type_dict_get,⟨o,ho,hc⟩,fun b e=>by cases e; exact ⟨o,ho,hd⟩,?_⟩
 have hA:=ha cpos pins s1 σ H1 _ I1 h
 rw [hs] at hA ⊢
 refine Calls.callWith_builtin rfl (Calls.evalArgs_plain ?_)
 refine thn hA fun us s2 ⟨vs,H2,I2,r2,z,ez,q2⟩=>?_
 subst ez
 obtain ⟨u,rfl,ru⟩:=r2.one
 have ho2:s2.heap.get? d=some o:=I2.kIn _ _ lk
 have dd:=dic X.prog s2.heap ho2
 refine call_meetsIn PySem.F.slot_dict_get dd.typeIs PySem.F.entry_dict_get (PySem.F.args_dict_get_2 _ _) (meets_dict_get (zA8 X.prog X.w) d (zGU (k:=.inr z) ru) hsys) ⟨_,dd.mapOf,?_⟩
 have v:=val z
 revert q2 v
 cases zCY.lookup z with
 | some ts =>
  rintro q2 ⟨p,e,kt⟩
  rw [e]
  exact ⟨.ref p,H2,I2.tok _,rfl,q2 p kt⟩
 | none =>
  intro q2 e
  rw [e]
  exact ⟨.non,H2,I2.tok _,rfl,q2⟩
noncomputable def zJ0:List D→M D
 | [.str z]=>match zCY.lookup z with
  | some ts=>ret (.ktp ts)
  | none=>ret .non
 | _=>bad
theorem zNo (F:FmIn X.w X.K X.mg) (hg:Gl X "FORMS") (ha:PE X a (tOf X.K ca)) (hs:starEach [a] X.env=[(false,eval a X.env)])
  (hfew:((backTo cpos (starEach [a] X.env)).all (fun x=>!x.1)&&(backToKw cpos (keywordEach [] X.env)).all (fun x=>x.1.isSome)
   && decide ([a].length+([]:List Keyword).length+(if ([]:List Keyword).isEmpty then 0 else 1)<30))=true)
  (hline:(apos.endLine == cpos.line)=true):PE X (.Call (.Attribute (.Name "FORMS" np) "get" apos) [a] [] cpos) (tOf X.K (cApp zJ0 (zA0 [ca]))):=(zNJ F hg (zCu ha zFj hs) hs hfew hline).weak (by
 rintro σ H Q ⟨μ,ρ,S,d,S',sr,re,e,y⟩
 obtain ⟨xs,S1,e1,e⟩:=zA7 e
 refine ⟨μ,ρ,S,xs,S1,sr,re,e1,fun vs H1 μ1 sr1 st1 r1=>?_⟩
 unfold zJ0 at e
 split at e
 ·rename_i z
  obtain ⟨v,rfl,r⟩:=r1.one
  unfold RV at r; subst r
  refine ⟨z,rfl,?_⟩
  revert e
  cases zCY.lookup z with
  | some ts =>
   intro e p kt
   obtain ⟨rfl,rfl⟩:=zAd e
   exact y _ _ _ sr1 st1 (by unfold RV; exact ⟨p,rfl,.inr kt⟩)
  | none =>
   intro e
   obtain ⟨rfl,rfl⟩:=zAd e
   exact y _ _ _ sr1 st1 zCq
 ·cases e)
end
open PySem PySem.Spec PyProof.Rows
theorem zG5 {pos:Pos}{a b:Int}{c cv:Value} (l:List Value) (h:TriplesOk l) (e:codeAmong pos (l++[rawInt a,rawInt b,c])=some cv):codeAmong pos l=some cv∨cv=c:=by
 fun_induction TriplesOk l with
 | case1 =>
  right
  simp only [List.nil_append,codeAmong,rawInt] at e
  split at e
  ·exact (Option.some.inj e).symm
  ·cases e
 | case2 a' t b' u x rest ih =>
  simp only [List.cons_append,codeAmong] at e ⊢
  split at e
  ·rename_i hc; rw [if_pos hc]; exact .inl e
  ·rename_i hc; rw [if_neg hc]; exact ih h e
 | case3 l h1 h2=>exact h.elim
section
variable {P:Program}{w:World}{H:Hp}{h h':Heap}{T c':Addr}{ps qs:Array Value}{oc:Obj}
noncomputable def Hmk (H:Hp) (T c':Addr) (oc:Obj) (qs:Array Value):Hp:=upd (upd H c' (.frz oc (.ext fun h=>h.get? c'=some oc))) T (.tbl qs)
theorem hmk_T:Hmk H T c' oc qs T=some (.tbl qs):=zA4
theorem hmk_c (n:c'≠T):Hmk H T c' oc qs c'=some (.frz oc (.ext fun h=>h.get? c'=some oc)):=by unfold Hmk; rw [zA5 n,zA4]
theorem zEP {b:Addr} (n1:b≠T) (n2:b≠c'):Hmk H T c' oc qs b=H b:=by unfold Hmk; rw [zA5 n1,zA5 n2]
theorem un_mk {fs:List Addr} (hT:H T=some (.tbl ps)) (hs:h.objs.size≤c') (hc:H c'=none) (k:∀ b o,b≠T→h.get? b=some o→h'.get? b=some o) (hT':∃ o,h'.get? T=some o) (hq:∃ more,qs=ps++more):Un fs [] H (Hmk H T c' oc qs) h h':=by
 have nT:∀ b,H b=none→b≠T:=fun b n z=>by rw [z,hT] at n; cases n
 have nC:∀ b o,h.get? b=some o→b≠c':=fun b o e=>Nat.ne_of_lt (Nat.lt_of_lt_of_le (Heap.lt_size e) hs)
 have nC':∀ b u,H b=some u→b≠c':=fun b u e z=>by rw [z,hc] at e; cases e
 have nT':∀ b u,H b=some u→(∀ qs,u≠.tbl qs)→b≠T:=fun b u e z y=>by rw [y,hT] at e; exact z _ (Option.some.inj e).symm
 refine ⟨fun b o e n _ _=>k b o (nT b n) e,fun b o e n _ _=>⟨o.slots,k b o (nT b n) e⟩,fun b o e n _=>?_,fun b o e _=>?_,fun b xs e=>?_,fun b o u e=>?_,fun b qs' e=>?_⟩
 ·rw [zEP (nT b n) (nC b o e)]; exact n
 ·by_cases z:b=T
  ·rw [z]; exact hT'
  ·exact ⟨o,k b o z e⟩
 ·rw [zEP (nT' b _ e fun _ z=>by cases z) (nC' b _ e)]; exact e
 ·rw [zEP (nT' b _ e fun _ z=>by cases z) (nC' b _ e)]; exact e
 ·by_cases z:b=T
  ·subst z
   rw [hT] at e; cases e
   obtain ⟨m,rfl⟩:=hq
   exact ⟨m,hmk_T⟩
  ·exact ⟨#[],by rw [zEP z (nC' b _ e),e]; simp⟩
theorem hok_mk (ok:HOk P w H h) (hT:H T=some (.tbl ps)) (hs:h.objs.size≤c') (hc:H c'=none) (k:∀ b o,b≠T→h.get? b=some o→h'.get? b=some o) (hT':h'.get? T=some { cls:=.none,data:=.fields qs }) (hoc:h'.get? c'=some oc):HOk P w (Hmk H T c' oc qs) h':=by
 have nCT:c'≠T:=fun z=>by rw [z,hT] at hc; cases hc
 have nC':∀ b u,H b=some u→b≠c':=fun b u e z=>by rw [z,hc] at e; cases e
 have nT':∀ b u,H b=some u→(∀ qs,u≠.tbl qs)→b≠T:=fun b u e z y=>by rw [y,hT] at e; exact z _ (Option.some.inj e).symm
 intro a o e
 by_cases z:a=T
 ·subst z
  rw [hmk_T] at e; cases e
  exact hT'
 ·by_cases y:a=c'
  ·subst y
   rw [hmk_c nCT] at e; cases e
   exact ⟨hoc,hoc,⟨oc,hoc⟩,fun h1 h2 p q=>q _ p⟩
  ·rw [zEP z y] at e
   refine (ok a o e).stay (fun b u hb r=>k b u ?_ r) (fun b q=>?_) fun b xs q=>?_
   ·rcases hb with rfl | hb
    ·exact z
    ·exact nT' b _ hb fun _ z=>by cases z
   ·rw [zEP (nT' b _ q fun _ z=>by cases z) (nC' b _ q)]; exact q
   ·rw [zEP (nT' b _ q fun _ z=>by cases z) (nC' b _ q)]; exact q
end
inductive LamX (X:Cx) (x:Str):Prop
 | mk (c T:Addr) (tab:W.tabIn X.K x=some (c,T)) (code:X.env.code=.ref c) (qual:X.env.qual=x ++ ".<locals>.") (hd:W.CodeHd X.base c T) (blt:X.base.BuiltinsAt X.mg T) (ne:mainGlobals≠T)
structure LamAt (X:Cx) (K:W.Frag) (x:Str) (params:Arguments) (body:Expr) (scope:Scope) (cl:List (Str × Addr)) (T f:Addr) (H H':Hp) (h:Heap):Prop where
 tab:∃ ps,H' T=some (.tbl ps)∧TabT K (zCx x) H' T x ps
 ch:∀ b o,b≠T→H b=some o→H' b=some o
 fn:∃ cv ctv pm,h.get? f=some { cls:=.type "function",data:=.func (W.kla_fn "<lambda>" (zCx x) params body scope cl pm cv ctv) }∧CodeT (zCx x) H' cv
 free:H' f=none
 fr:f∉frs X.stack
section
variable {X:Cx}{pins:List (Addr × Obj)}{σ:St}{H:Hp}{s:Shared}
theorem blt_to {h h':Heap}{mg:Str→Option Value}{T:Addr} (B:h.BuiltinsAt mg T) (k:∀ b o,h.get? b=some o→h'.get? b=some o):h'.BuiltinsAt mg T:=by
 obtain ⟨bm,o,h1,h2,h3,h4,h5,r⟩:=B
 exact ⟨bm,o,h1,h2,h3,h4,k _ _ h5,r⟩
theorem zJ5 {x:Str}{T:Addr}{ps:Array Value}{params:Arguments}{body:Expr}{scope:Scope}{cl:List (Str × Addr)}{pos:Pos}{Q:Value→Shared→Prop}{E:Value→Shared→Prop} (I:Inv X pins σ H s) (L:LamX X x) (hT:H T=some (.tbl ps)) (t:TabT X.K (zCx x) H T x ps)
  (hcl:closureFor scope X.env=pure cl) (hdef:defaultsOf params X.env=([],[]))
  (h:∀ f H' s',LamAt X X.K x params body scope cl T f H H' s'.heap→Inv X pins σ H' s'→(∀ b o,s.heap.get? b=some o→H b=none→s'.heap.get? b=some o∧H' b=none)→Q (.ref f) s') :
  wpAny (model X.prog X.w) X.A (eval (.Lambda params body scope pos) X.env) Q E s:=by
 obtain ⟨c,T',tab,code,qual,C,B,ne⟩:=L
 obtain ⟨c2,t1⟩:=t.tab
 rw [tab] at t1
 cases t1
 have eq:X.env.qual ++ "<lambda>"=zCx x:=by rw [qual]; rfl
 have oT:=I.hok T _ hT
 have G:=I.ok.mod.glob.keeps I.bk
 have C':=C.keeps I.bk
 have B':=blt_to B I.bk
 have ge:=I.ok.glob
 have nfr:∀ a:Addr,s.heap.objs.size≤a→a∉frs X.stack:=fun a ha m=>by
  rcases List.mem_cons.mp (I.stkSub a m) with z | z
  ·exact absurd I.lt (by rw [← z]; exact Nat.not_lt.mpr ha)
  ·exact I.nofs ha z
 refine W.kla_eval hdef ?_
 rw [eq]
 cases hf:codeAmong pos ps.toList with
 | some cv =>
  refine W.kla_makeFunctionHit hcl ge G code C' oT t.ok hf B' fun ctv h' tk k hs=>?_
  have k2:∀ o b u,s.heap.get? b=some u→(h'.push o).get? b=some u:=fun o b u e=>Heap.get?_push_of_some _ (k b u e)
  refine h h'.objs.size H _ ⟨⟨ps,hT,t⟩,fun _ _ _ e=>e,⟨cv,ctv,_,Heap.get?_push_size _ rfl,t.code _ _ hf⟩,I.hok.fresh hs,nfr _ hs⟩ (I.kept (t':=tk) (k2 _)) fun b o e n=>⟨k2 _ b o e,n⟩
 | none =>
  refine W.kla_makeFunction hcl ge G code C' oT t.ok hf ne B' fun c' ctv h' tk k hs hlt hrec hT'=>?_
  obtain ⟨c3,oc,vs,tq,e3,hoc,hd,hq⟩:=hrec
  cases e3
  have hc:=I.hok.fresh hs
  have nCT:c'≠T:=fun z=>by rw [z,hT] at hc; cases hc
  have sz:=Nat.le_trans hs (Nat.le_of_lt hlt)
  have k2:∀ o b u,b≠T→s.heap.get? b=some u→(h'.push o).get? b=some u:=fun o b u n e=>Heap.get?_push_of_some _ (k b u n e)
  have fresh:=I.hok.fresh sz
  have cT:CodeT (zCx x) (Hmk H T c' oc (ps++#[rawInt pos.line,rawInt pos.col,.ref c'])) (.ref c'):=⟨c',oc,vs,tq,rfl,hmk_c nCT,hd,hq⟩
  have nT:∀ b,H b=none→b≠T:=fun b n z=>by rw [z,hT] at n; cases n
  have ch:∀ b o,b≠T→H b=some o→Hmk H T c' oc (ps++#[rawInt pos.line,rawInt pos.col,.ref c']) b=some o:=fun b o n e=>by
   rw [zEP n fun z=>by rw [z,hc] at e; cases e]; exact e
  refine h h'.objs.size (Hmk H T c' oc (ps++#[rawInt pos.line,rawInt pos.col,.ref c'])) _ ⟨⟨_,hmk_T,t.tab,?_,fun p cv z=>?_⟩,ch,⟨.ref c',ctv,_,Heap.get?_push_size _ rfl,cT⟩,?_,nfr _ sz⟩ ?_ fun b o e n=>⟨k2 _ b o (nT b n) e,?_⟩
  ·rw [Array.toList_append]; exact TriplesOk_snoc _ _ _ _ t.ok
  ·rw [Array.toList_append] at z
   rcases zG5 _ t.ok z with z | rfl
   ·obtain ⟨c4,o4,vs4,t4,rfl,h4,r4⟩:=t.code p cv z
    exact ⟨c4,o4,vs4,t4,rfl,ch _ _ (fun y=>by rw [y,hT] at h4; cases h4) h4,r4⟩
   ·exact cT
  ·rw [zEP (nT _ fresh) (Nat.ne_of_gt hlt)]; exact fresh
  ·exact I.un (t':=tk) (un_mk hT hs hc (k2 _) ⟨_,Heap.get?_push_of_some _ hT'⟩ ⟨_,rfl⟩) (hok_mk I.hok hT hs hc (k2 _) (Heap.get?_push_of_some _ hT') (Heap.get?_push_of_some _ hoc))
  ·rw [zEP (nT b n) (Nat.ne_of_lt (Nat.lt_of_lt_of_le (Heap.lt_size e) hs))]; exact n
end
open PySem PySem.Spec PyProof.Rows
noncomputable def tbAt (S:zA2):Option Str:=match (S[0]?:Option O) with
 | some (O.tb x)=>some x
 | _=>none
theorem zGq {S:zA2}{x:Str} (h:tbAt S=some x):S[0]?=some (.tb x):=by
 unfold tbAt at h
 split at h
 ·rename_i e; cases h; exact e
 ·cases h
theorem zPF {S:zA2}{x:Str} (h:S[0]?=some (.tb x)):tbAt S=some x:=by unfold tbAt; rw [h]
noncomputable def zMG (x:Str) (ws:List (Str × Str)) (js:List Nat) (cb:C):C:=fun ρ S=>if tbAt S=some x then (match cb (stE 0 js ρ) S with
 | .ok _ S'=>.ok .non S'
 | .er c S'=>(match ws.lookup c with
  | some w=>.ok (.str w) S'
  | none=>.bad)
 | .bad=>.bad) else .bad
inductive zDn (K:W.Frag) (mg:Str→Option Value) (tk:Str) (ws:List (Str × Str)):Prop
 | mk (st:Stmt) (fa:Addr) (fd:FuncData) (c y:Str) (h0:ExceptHandler) (hs:List ExceptHandler) (p1 p2 p3 p4 p5 p6 p7 p8 p9:Pos) (j:Nat) (wa:List (Addr × Str)) (F:Fun K tk tk st fa fd) (m:mg tk=some (.ref fa)) (b:zBN K fd [c] []) (S:zBw [c,y] [c] (zA1 st))
   (body:zAc st=zKq c y y h0 hs p1 p2 p3 p4 p5 p6 p7 p8 p9 j) (hc1:(c == ("__debug__":Str))=false) (hc2:(c == ("__classdict__":Str))=false) (hl:(zA1 st).names.lookup y=some .local) (hy1:(y == ("__debug__":Str))=false) (hy2:(y == ("__classdict__":Str))=false)
   (hs:∀ X:Cx,X.mg=mg→X.env.scope=zA1 st→X.N=[c,y]→HsOk X 1 (h0::hs) wa) (pk:∀ c w C,ws.lookup c=some w→mg c=some (.ref C)→zHC K (.ref C) wa w)
section
variable {X:Cx}{pins:List (Addr × Obj)}{σ:St}{H H':Hp}{s:Shared}{K:W.Frag}{μ:List Addr}{S:zA2}
theorem SR.made (sr:SR K μ S H) {T:Addr}{x:Str}{ps:Array Value} (h0:μ[0]?=some T) (hS:S[0]?=some (.tb x)) (hT:H T=some (.tbl ps)) (ch:∀ b o,b≠T→H b=some o→H' b=some o) (t:∃ ps,H' T=some (.tbl ps)∧TabT K (zCx x) H' T x ps):SR K μ S H'∧Step K μ μ H H':=by
 have hm:=List.mem_of_getElem? h0
 have tk:TF K H H':=tf_of (fun q o n e=>ch q o n e) (fun xs e=>by rw [hT] at e; cases e) fun a b e=>by rw [hT] at e; cases e
 refine ⟨⟨sr.len,sr.nd,fun n a o e1 e2=>?_⟩,⟨⟨[],by simp,by simp⟩,fun b o hb e=>ch b o (fun z=>hb (z▸hm)) e,tk⟩⟩
 by_cases hn:n=0
 ·subst hn
  rw [h0] at e1; cases e1
  rw [hS] at e2; cases e2
  exact t
 ·have ne:a≠T:=fun z=>by
   subst z
   exact hn ((List.getElem?_inj (List.getElem?_eq_some_iff.mp e1).1 sr.nd).mp (e1.trans h0.symm))
  obtain ⟨o',q⟩:=sr.isS (List.mem_of_getElem? e1)
  exact (sr.obj n a o e1 e2).up tk ⟨[],by simp⟩ (by rw [ch a o' ne q,q])
structure LamTx (X:Cx) (params:Arguments) (scope:Scope) (N:List Str) (js:List Nat):Prop where
 kind:scope.kind=.function
 co:scope.isCoroutine=false
 gen:scope.isGenerator=false
 nocell:∀ x∈scope.names,x.2≠.cell
 args:params={ posonlyargs:=[],args:=[],vararg:=none,kwonlyargs:=[],kw_defaults:=[],kwarg:=none,defaults:=[] }
 frees:∀ x,(x,NameKind.free)∈scope.names→X.env.scope.names.lookup x=some .cell
 len:js.length=N.length
 slot:∀ (i j:Nat),js[i]?=some j→∃ x,N[i]?=some x∧X.N[j]?=some x∧scope.names.lookup x=some .free
theorem zPk {params:Arguments}{scope:Scope}{N:List Str}{js:List Nat}{h:Heap} (I:Inv X pins σ H s) (L:LamTx X params scope N js) (k:∀ b o,s.heap.get? b=some o→H b=none→∃ sl,h.get? b=some { o with slots:=sl }):LamSt N (stC 0 js σ) scope (clOf X.env scope.names []) H h:=by
 have ck:∀ x c v,X.env.cells.lookup x=some c→s.heap.IsCell c v→h.IsCell c v:=fun x c v e z=>by
  obtain ⟨o,e1,d⟩:=z
  obtain ⟨sl,e2⟩:=k c o e1 (I.freeC x c e)
  exact ⟨_,e2,d⟩
 have cs:=fun x hx=>I.ok.has x (.inl (L.frees x hx))
 have has:=fun x hx=>zCl scope.names [] x (.inr ⟨hx,cs x hx⟩)
 refine ⟨fun x y c h1 h2=>I.ok.inj x y c (zCC h1) (zCC h2),fun x hx=>?_,fun i x v h1 h2=>?_,fun x c e=>?_,by unfold stC; simp [L.len]⟩
 ·rcases hx with hx | hx
  ·exact absurd rfl (L.nocell _ (zAT hx))
  ·exact has x (zAT hx)
 ·obtain ⟨j,_,e1,e2⟩:=zHH h2
  obtain ⟨x',n1,n2,n3⟩:=L.slot i j e1
  rw [h1] at n1; cases n1
  have hx:=zAT n3
  have kc:=L.frees x hx
  obtain ⟨m,hn,hv⟩:=I.loc
  obtain ⟨u,r,l⟩:=hv j x v n2 e2 (.inr (.inl kc))
  obtain ⟨c,ec⟩:=has x hx
  refine ⟨u,c,r,n3,ec,?_⟩
  rcases l with ⟨l,_⟩ | ⟨_,c2,e3,z⟩
  ·have l':X.env.scope.names.lookup x=some .local:=l
   rw [kc] at l'; cases l'
  ·rw [zCC ec] at e3; cases e3
   exact ck x c _ (zCC ec) z
 ·obtain ⟨v,z⟩:=I.cell x c (zCC e)
  exact ⟨⟨v,ck x c v (zCC e) z⟩,I.freeC x c (zCC e)⟩
theorem zQ0 {tk x:Str}{ws:List (Str × Str)}{js:List Nat}{cb:C}{params:Arguments}{body:Expr}{scope:Scope}{N:List Str}{p lpos pos:Pos} (Tk:zDn X.K X.mg tk ws) (L:LamX X x) (hg:Gl X tk) (hdb:(tk == ("__debug__":Str))=false) (hr:Room 2 X.A) (lt:LamTx X params scope N js)
  (hbody:∀ (f:Addr) (cd:Value) (cl:List (Str × Addr)) (e1:Env) (outer:List Env) (s:Shared) (H:Hp) (E:XK),PE (zG3 X.prog X.w X.K X.mg X.base N (zCx x) scope f cd cl (X.A.deeper e1) outer s H E) body (tOfX (zG3 X.prog X.w X.K X.mg X.base N (zCx x) scope f cd cl (X.A.deeper e1) outer s H E) cb)) :
  PE X (.Call (.Name tk p) [.Lambda params body scope lpos] [] pos) (tOf X.K (zMG x ws js cb)):=by
 rintro pins s σ H Q I ⟨μ,ρ,S,d,S',sr,re,e,y⟩
 obtain ⟨st,fa,fd,c,yy,h0,hs,p1,p2,p3,p4,p5,p6,p7,p8,p9,j,wa,F,m,bi,Sc,bod,hc1,hc2,hl,hy1,hy2,hso,pk⟩:=Tk
 unfold zMG at e
 split at e
 ·rename_i hS
  have hS:=zGq hS
  obtain ⟨T,hT0⟩:∃ T,μ[0]?=some T:=by
   have:0<μ.length:=by rw [sr.len]; exact (List.getElem?_eq_some_iff.mp hS).1
   exact ⟨_,List.getElem?_eq_getElem this⟩
  obtain ⟨ps,hT,tt⟩:=sr.obj 0 T _ hT0 hS
  have hcl:=zAO fun x hx=>I.ok.has x (.inl (lt.frees x hx))
  refine wpAny_Call_Name_kw (zBQ I hg m ?_ hdb)
  refine W.callWith_K I.ok.mod.kin F.kp (Calls.spliced_cons (zJ5 I L hT tt hcl (by rw [lt.args]; rfl) fun f H1 s1 la I1 kp=>Calls.spliced_nil ⟨I1.kIn,?_⟩)) rfl rfl
  obtain ⟨sr1,st1⟩:=sr.made hT0 hS hT la.ch la.tab
  obtain ⟨cv,ctv,pm,hf,cT⟩:=la.fn
  have re1:=(re.up st1).comp 0 js
  refine wpAny_call (codeAny_mono (zKu (Q:=Q) F Sc bi bod hc1 hc2 hl hy1 hy2 hr.depth hr.hd I1.env0 (fun cdv=>hso _ rfl rfl rfl) fun cdv=>?_) fun r s' hq=>?_)
  ·intro pins2 σ2 s2 I2
   have hf2:=I2.base.keep f _ hf la.free la.fr (by show f∉([]); simp)
   refine ⟨⟨_,_,_,_,hf2⟩,?_⟩
   have hcd:s2.heap.CodeRec cv (zCx x):=by
    obtain ⟨c3,o3,vs3,t3,rfl,h3,d3,q3⟩:=cT
    exact ⟨c3,o3,vs3,t3,rfl,(I2.hok c3 _ h3).1,d3,q3⟩
   have ls:=zPk I1 lt fun b o e n=>I2.base.any e n (by show b∉([]); simp)
   refine zLv (hr.deeper _) (Nat.le_refl _) I2.env0 hf2 hcd lt.kind lt.co lt.gen lt.nocell (by rw [lt.args]; rfl) ls (hbody _ _ _ _ _ _ _ _) ⟨μ,stE 0 js ρ,S,sr1,re1,?_⟩
   revert e
   cases cb (stE 0 js ρ) S with
   | bad=>exact fun e=>by cases e
   | ok d' S2 =>
    intro e
    cases e
    exact fun v H2 μ2 sr2 st2 rv=>y _ H2 μ2 sr2 (st1.trans st2 sr2.nd) zCq
   | er k S2 =>
    intro e H2 μ2 sr2 st2 C hC
    dsimp only at e
    split at e
    ·rename_i w hw
     cases e
     exact zM3 zLw ⟨w,pk k w C hw hC,y _ H2 μ2 sr2 (st1.trans st2 sr2.nd) zBb⟩
    ·cases e
  ·cases r with
   | error e=>exact False.elim hq
   | ok fl =>
    cases fl with
    | ret u=>exact I1.after hq
    | next=>exact False.elim hq
    | brk=>exact False.elim hq
    | cont=>exact False.elim hq
 ·cases e
end
open PySem PySem.Spec PyProof.Rows
noncomputable def xoL:List Str:=["TooMany","NoContact","NoBridge","NoName","BadNote","NoPlace","NoTable"]
noncomputable def exG (K:W.Frag) (c:Str):Option Addr:=match W.nsIn K mainGlobals c with
 | some (some (.ref C))=>some C
 | _=>none
theorem zPs {K:W.Frag}{c:Str}{C:Addr} (h:exG K c=some C):W.nsIn K mainGlobals c=some (some (.ref C)):=by
 unfold exG at h
 split at h
 ·rename_i q; cases h; exact q
 ·cases h
theorem ns_exG {K:W.Frag}{c:Str}{C:Addr} (h:W.nsIn K mainGlobals c=some (some (.ref C))):exG K c=some C:=by unfold exG; rw [h]
noncomputable def exOne (K:W.Frag) (c:Str):Bool:=match exG K c with
 | some C=>W.findIn K (.ref C) "__getattribute__" == some (some (.builtin "BaseException.__getattribute__"))&&W.findIn K (.ref C) "__class__" == some (some (.builtin "object.__class__"))&&W.mroIn K C (.type "object") == some true&&W.mroIn K C (.type "BaseException") == some true
   && W.findIn K (.ref C) "__getattr__" == some none&&(W.clsIn K C).isSome&&W.kitOne K (.ref C) (.type "ValueError") == some true&&W.kitOne K (.type "NoneType") (.ref C) == some false
 | none=>false
noncomputable def exTwo (K:W.Frag) (c g:Str):Bool:=match exG K c,exG K g with
 | some C,some G=>W.kitOne K (.ref C) (.ref G) == some (c == g)
 | _,_=>false
noncomputable def zFZ (K:W.Frag):Bool:=xoL.all fun c=>exOne K c&&xoL.all fun g=>exTwo K c g
theorem zCe {K:W.Frag} (h:zFZ K=true) {c:Str} (hc:c∈xoL):∃ C,exG K c=some C∧ExcG K C∧W.kitOne K (.ref C) (.type "ValueError")=some true∧W.kitOne K (.type "NoneType") (.ref C)=some false:=by
 have h1:=(Bool.and_eq_true_iff.mp (List.all_eq_true.mp h c hc)).1
 unfold exOne at h1
 split at h1
 ·rename_i C q
  simp only [Bool.and_eq_true,beq_iff_eq] at h1
  obtain ⟨⟨⟨⟨⟨⟨⟨a1,a2⟩,a3⟩,a4⟩,a5⟩,a6⟩,a7⟩,a8⟩:=h1
  exact ⟨C,q,⟨a1,a2,a3,a4,a5,a6⟩,a7,a8⟩
 ·cases h1
theorem zM5 {K:W.Frag} (h:zFZ K=true) {c g:Str} (hc:c∈xoL) (hg:g∈xoL) {C G:Addr} (e1:exG K c=some C) (e2:exG K g=some G):W.kitOne K (.ref C) (.ref G)=some (c == g):=by
 have h1:=List.all_eq_true.mp (Bool.and_eq_true_iff.mp (List.all_eq_true.mp h c hc)).2 g hg
 unfold exTwo at h1
 rw [e1,e2] at h1
 exact beq_iff_eq.mp h1
noncomputable def oIsX (g:Str):D→M D:=fun x S=>match x with
 | .xc c=>if c∈xoL then .ok (.bl (c == g||g == ("ValueError":Str))) S else .bad
 | .non=>.ok (.bl false) S
 | _=>.bad
section
variable {X:Cx}{a:Expr}{ca:C}{g:Str}{p p2 pos:Pos}
theorem zOm {pins:List (Addr × Obj)}{σ:St}{H:Hp}{s:Shared}{Q:VK}{G:Value}{d:D}{v:V}{u:Value}{b:Bool}{μ:List Addr} (I:Inv X pins σ H s) (r:RelV v u) (rv:RV X.K H μ d v) (xk:zFZ X.K=true)
  (e:d=.non∧W.kitOne X.K (.type "NoneType") G=some b∨∃ c C,d=.xc c∧c∈xoL∧exG X.K c=some C∧W.kitOne X.K (.ref C) G=some b) (q:Q (.bl b) H):wpAny (model X.prog X.w) X.A (call (.builtin "isinstance") [u,G]) (EP X pins σ Q) X.xe s:=by
 rcases e with ⟨rfl,e⟩ | ⟨c,C,rfl,hc,hC,e⟩
 ·subst rv
  cases (r)
  exact W.kia_one W.kitx_none I.kIn True.intro e (fun z=>nomatch z) fun tk=>⟨.bl b,H,I.tok tk,rfl,q⟩
 ·unfold RV at rv
  obtain ⟨ea,oe,C',rfl,h1,h2,h3⟩:=rv
  have:=ns_exG h3
  rw [hC] at this; cases this
  cases (r)
  obtain ⟨C2,k1,k2,_⟩:=zCe xk hc
  rw [hC] at k1; cases k1
  exact W.kia_one (zOg k2) I.kIn ⟨oe,(I.hok ea _ h1).1,h2⟩ e (fun z=>nomatch z) fun tk=>⟨.bl b,H,I.tok tk,rfl,q⟩
theorem se_isx (ha:PE X a (tOf X.K ca)) (hg0:Gl X "isinstance") (hm0:X.mg "isinstance"=none) (xk:zFZ X.K=true)
  (hg:(g = "ValueError"∧Gl X g∧X.mg g=none)∨(g∈xoL∧Gl X g∧(∃ G,X.mg g=some (.ref G)∧exG X.K g=some G)∧(g == ("__debug__":Str))=false)) (h1:starEach [a,.Name g p2] X.env=(false,eval a X.env)::starEach [.Name g p2] X.env) :
  PE X (.Call (.Name "isinstance" p) [a,.Name g p2] [] pos) (tOf X.K (cUn (oIsX g) ca)):=by
 obtain ⟨gv,gu,hgv,hpe,kN,kX⟩:∃ (gv:V) (gu:Value),(∀ u,RelV gv u→u=gu)∧PE X (.Name g p2) (tC gv)∧W.kitOne X.K (.type "NoneType") gu=some false∧∀ c C,c∈xoL→exG X.K c=some C→W.kitOne X.K (.ref C) gu=some (c == g||g == ("ValueError")):=by
  rcases hg with ⟨rfl,hg,hm⟩ | ⟨hx,hg,⟨G,hm,hG⟩,hd⟩
  ·refine ⟨.ty "ValueError",.type "ValueError",fun u h=>h,zL5 hg hm (by decide +kernel) rfl (by decide +kernel) (by decide +kernel),rfl,fun c C hc hC=>?_⟩
   obtain ⟨C',k1,_,k3,_⟩:=zCe xk hc
   rw [hC] at k1; cases k1
   rw [k3,beq_self_eq_true,Bool.or_true]
  ·obtain ⟨G',k1,_,_,k4⟩:=zCe xk hx
   rw [hG] at k1; cases k1
   refine ⟨.ref G,.ref G,fun u h=>h,zHP hg hm rfl hd,k4,fun c C hc hC=>?_⟩
   rw [zM5 xk hc hx hC hG]
   have:(g == ("ValueError"))=false:=by
    simp only [xoL,List.mem_cons,List.not_mem_nil,or_false] at hx
    rcases hx with rfl | rfl | rfl | rfl | rfl | rfl | rfl <;> decide +kernel
   rw [this,Bool.or_false]
 have hc:zAw X (.builtin "isinstance") (fun vs H Q=>∃ v d μ b,vs=[v,gv]∧RV X.K H μ d v∧(d=.non∧W.kitOne X.K (.type "NoneType") gu=some b∨∃ c C,d=.xc c∧c∈xoL∧exG X.K c=some C∧W.kitOne X.K (.ref C) gu=some b)∧Q (.bl b) H):=by
  intro pins s σ H xs us Q I r h
  obtain ⟨v,d,μ,b,rfl,rv,e,q⟩:=h
  obtain ⟨u,u2,rfl,ru,r2⟩:=zJp r
  have:=hgv u2 r2
  subst this
  exact zOm I ru rv xk e q
 refine (zIW hc hg0 hm0 (by decide +kernel) (zC7 ha (zC7 hpe zFo) h1) (by decide +kernel) (by decide +kernel) h1 rfl).weak ?_
 rintro σ H Q ⟨μ,ρ,S,d,S',sr,re,e,y⟩
 obtain ⟨x,S1,e1,e⟩:=zA7 e
 refine ⟨μ,ρ,S,x,S1,sr,re,e1,fun v H1 μ1 sr1 st1 r1=>?_⟩
 unfold oIsX at e
 split at e
 ·rename_i c
  split at e
  ·rename_i hc
   cases e
   obtain ⟨C,k1,_⟩:=zCe xk hc
   exact ⟨v,_,μ1,_,rfl,r1,.inr ⟨c,C,rfl,hc,k1,kX c C hc k1⟩,(y.shift st1).self sr1 zBE⟩
  ·cases e
 ·cases e
  exact ⟨v,_,μ1,_,rfl,r1,.inl ⟨rfl,kN⟩,(y.shift st1).self sr1 zBE⟩
 ·cases e
end
open PySem PySem.Spec PyProof.Rows
noncomputable def rfE (n:Nat) (d:D):Env1:=none::some d::List.replicate (n - 2) none
noncomputable def endR:RS→R D
 | .rt d S=>.ok d S
 | .nx _ S=>.ok .non S
 | _=>.bad
noncomputable def zBd (x:Str) (n:Nat) (b:CS) (js:List Nat) (cb:C):C:=fun ρ S=>if tbAt S=some x then (match cb (stE 0 js ρ) S with
 | .ok _ S'=>endR (b (rfE n .non) S')
 | .er c S'=>if c∈xoL then endR (b (rfE n (.xc c)) S') else .bad
 | .bad=>.bad) else .bad
noncomputable def zPf (c y en g:Str) (p1 p2 p3 p4 p5 p6 p7 q1 q2 q3 q4 q5:Pos) (j:Nat) (rest:List Stmt):List Stmt :=
 .Assign [.Name y p1] (.Constant .none j p2) p3::.Try [.Expr (.Call (.Name c p4) [] [] p5) p6] [.ExceptHandler (some (.Name g q1)) (some en) [.Assign [.Name y q2] (.Name en q3) q4] q5] [] [] p7::rest
structure RfTx (st:Stmt) (c y en g:Str) (N:List Str) (rest:List Stmt):Prop where
 body:∃ p1 p2 p3 p4 p5 p6 p7 q1 q2 q3 q4 q5 j,zAc st=zPf c y en g p1 p2 p3 p4 p5 p6 p7 q1 q2 q3 q4 q5 j rest
 sc:zBw N [c] (zA1 st)
 n:∃ more,N=c::y::en::more
 ly:(zA1 st).names.lookup y=some .local
 le:(zA1 st).names.lookup en=some .local
 lg:(zA1 st).names.lookup g=some .globalImplicit
 c1:(c == ("__debug__":Str))=false
 c2:(c == ("__classdict__":Str))=false
 e1:(en == ("__debug__":Str))=false
 e2:(en == ("__classdict__":Str))=false
 g1:(g == ("__debug__":Str))=false
inductive RefIn (P:Program) (w:World) (K:W.Frag) (mg:Str→Option Value) (base:Heap) (tk:Str) (n:Nat) (b:CS):Prop
 | mk (st:Stmt) (fa:Addr) (fd:FuncData) (c y en g:Str) (N:List Str) (rest:List Stmt) (C:Addr) (F:Fun K tk tk st fa fd) (m:mg tk=some (.ref fa)) (bi:zBN K fd [c] []) (tx:RfTx st c y en g N rest) (hl:N.length=n) (hm:mg g=some (.ref C))
   (hx:∀ x∈xoL,∀ D,exG K x=some D→mg x=some (.ref D)∧W.exmOne K (.ref D) (.ref C)=some true)
   (rs:∀ (cdv:Value) (A:Around) (outer:List Env) (s:Shared) (H:Hp),Room 1 A→PSs (cxOf CX0 P w K mg base N tk (zA1 st) fa cdv A outer s H E0) rest (tOfS (cxOf CX0 P w K mg base N tk (zA1 st) fa cdv A outer s H E0) b))
section
variable {P:Program}{w:World}{K:W.Frag}{mg:Str→Option Value}{base:Heap}
theorem zJB {tk c y en g:Str}{st:Stmt}{fa f C:Addr}{fd:FuncData}{N:List Str}{rest:List Stmt}{b:CS}{A:Around}{outer:List Env}{s:Shared}{H:Hp}{Q:VK} (F:Fun K tk tk st fa fd) (bi:zBN K fd [c] []) (tx:RfTx st c y en g N rest) (hm:mg g=some (.ref C))
  (rs:∀ (cdv:Value),PSs (cxOf CX0 P w K mg base N tk (zA1 st) fa cdv A outer s H E0) rest (tOfS (cxOf CX0 P w K mg base N tk (zA1 st) fa cdv A outer s H E0) b))
  (hd:A.depth<recursionLimit) (hh:A.handled=none) (e0:Env0 P w K mg base A outer s H)
  (lc:∀ cdv,LamC (cxOf CX0 P w K mg base N tk (zA1 st) fa cdv A outer s H E0) f H (fun _ H'=>tOfS (cxOf CX0 P w K mg base N tk (zA1 st) fa cdv A outer s H E0) b { nx:=fun _ H'=>Q .non H',rt:=Q } (some (.ref f)::some .non::List.replicate (N.length - 2) none) H')
   fun D _ H'=>W.exmOne K D (.ref C)=some true∧∀ e oe,H' e=none→oe.cls=D→tOfS (cxOf CX0 P w K mg base N tk (zA1 st) fa cdv A outer s H E0) b { nx:=fun _ H'=>Q .non H',rt:=Q } (some (.ref f)::some (.ref e)::List.replicate (N.length - 2) none) (upd H' e (xrec e oe))) :
  codeAny (model P w) A (.call (.ref fa) ⟨[.ref f],[]⟩) (CR CX0 outer P w H s Q E0) s:=by
 obtain ⟨oc,od,kV,doc,pm,an,cdv,ct,osl,rfl,lk,hcd⟩:=F.ex
 have S:=tx.sc
 obtain ⟨more,hN⟩:=tx.n
 obtain ⟨p1,p2,p3,p4,p5,p6,p7,q1,q2,q3,q4,q5,j,hbody⟩:=tx.body
 have KX:=e0.mod.kin.keeps fun b o e=>(e0.bs b o e).1
 have lim:=e0.mod.nolimit.keeps fun b o e=>(e0.bs b o e).1
 have hkind:∀ z∈[(c,Value.ref f)],(zA1 st).names.lookup z.1=some .local∨((zA1 st).names.lookup z.1=some .cell∧((cellsFrom (s.heap.objs.size+1) (zA1 st).names []).lookup z.1).isSome=true):=fun z hz=>by
  simp only [List.mem_cons,List.not_mem_nil,or_false] at hz
  subst hz
  rcases S.par c (by simp) with q | q
  ·exact .inl q
  ·exact .inr ⟨q,W.cellsFrom_some _ _ _ (.inl q)⟩
 refine codeAny_call_function hd (KX _ _ lk) rfl S.co S.gen rfl (W.codeRec_of KX hcd) (bi s [.ref f] KX rfl _ _ _ _ (wpAny_newFunctionEnv_cells S.kind hkind fun env he s1 z=>?_))
 subst he
 refine ⟨lim.keeps z.toInCall.keep,codeAny_func ?_⟩
 have I:Inv (cxOf CX0 P w K mg base N tk (zA1 st) fa cdv A outer s H E0) [] (start N [.ref f]) H s1:=zEb S hh e0 rfl (.cons rfl .nil) z
 rw [hbody]
 obtain ⟨X,hX⟩:∃ X,cxOf CX0 P w K mg base N tk (zA1 st) fa cdv A outer s H E0=X:=⟨_,rfl⟩
 have hNX:X.N=N:=by rw [← hX]; rfl
 have i0:X.N[0]?=some c:=by rw [hNX,hN]; rfl
 have i1:X.N[1]?=some y:=by rw [hNX,hN]; rfl
 have i2:X.N[2]?=some en:=by rw [hNX,hN]; rfl
 have hn:X.N.Nodup:=by rw [hNX]; exact S.nd
 have hv:Vis X.env.scope c:=by
  rw [← hX]
  exact (S.par c (by simp)).elim .inl fun q=>.inr (.inl q)
 have ly:X.env.scope.names.lookup y=some .local:=by rw [← hX]; exact tx.ly
 have le:X.env.scope.names.lookup en=some .local:=by rw [← hX]; exact tx.le
 have lg:Gl X g:=by rw [← hX]; exact tx.lg
 have mg':X.mg g=some (.ref C):=by rw [← hX]; exact hm
 have a:=zFk (pos:=p3) (zL3 (j:=j) (pos:=p2)) (zC6 (pos:=p1) hn i1 (.inl ly) (.inr ly))
 have t:=zNA (p1:=p4) (p2:=p5) (p3:=p6) (p4:=p7) (p:=q1) (q:=q2) (q2:=q3) (q3:=q4) (q4:=q5) (f:=f) (by rw [← hX]; rfl) (by rw [← hX]; rfl) (by rw [← hX]; rfl) hn i0 hv tx.c1 tx.c2 lg mg' tx.g1 i2 le tx.e1 tx.e2 i1 ly
 have rs':=rs cdv
 have lc':=lc cdv
 have ln:N.length=more.length+3:=by rw [hN]; simp
 have e1:(start N [V.ref f]).set 1 (some .non)=some (.ref f)::some .non::List.replicate (N.length - 2) none:=by
  unfold start
  rw [ln]
  rfl
 have e2:∀ e:Addr,((((start N [V.ref f]).set 1 (some .non)).set 2 (some (.ref e))).set 1 (some (.ref e))).set 2 none=some (.ref f)::some (.ref e)::List.replicate (N.length - 2) none:=fun e=>by
  rw [e1,ln]
  rfl
 have e3:X.K=K:=by rw [← hX]; rfl
 rw [hX] at rs' lc' I
 have run:=zBj a (zBj t rs') [] s1 _ H { nx:=fun _ H'=>Q .non H',rt:=Q } I ⟨by rfl,fun pins σ s2 I2=>?_⟩
 ·rw [← hX] at run
  refine wpAny_mono run (fun fl s' q=>?_) fun e s' q=>q
  cases fl with
  | ret u =>
   obtain ⟨v,σ',H',J,rv,q⟩:=q
   exact ⟨v,H',J.os,J.bare,J.base,J.hok,rv,q⟩
  | next =>
   obtain ⟨σ',H',J,q⟩:=q
   exact ⟨.non,H',J.os,J.bare,J.base,J.hok,rfl,q⟩
  | brk =>
   obtain ⟨_,_,_,q⟩:=q
   exact False.elim q
  | cont =>
   obtain ⟨_,_,_,q⟩:=q
   exact False.elim q
 ·obtain ⟨z1,z2⟩:=lc' pins σ s2 I2
  refine ⟨z1,codeAny_mono z2 fun r s' q=>?_⟩
  cases r with
  | error ev =>
   obtain ⟨e,T,D,H',rfl,tr,ne,nT,os,bare,un,hok,he,hT,hx,hD⟩:=q
   refine ⟨e,T,D,H',rfl,tr,ne,nT,os,bare,un,hok,he,hT,by rw [e3]; exact hx,fun e oe q1 q2=>?_⟩
   rw [e2]
   exact hD e oe q1 q2
  | ok fl =>
   cases fl with
   | ret u =>
    obtain ⟨v,H',os,bare,un,hok,r,q⟩:=q
    refine ⟨v,H',os,bare,un,hok,r,?_⟩
    rw [e1]
    exact q
   | next=>exact q
   | brk=>exact q
   | cont=>exact q
end
section
variable {X:Cx}{pins:List (Addr × Obj)}{σ:St}{H H':Hp}{s:Shared}{K:W.Frag}{μ:List Addr}{S:zA2}
theorem zPe {n:Nat}{d:D}{v w:V} (r:RV K H μ d v):RE K H μ (rfE n d) (some w::some v::List.replicate (n - 2) none):=by
 refine ⟨by simp [rfE],fun i d' e=>?_⟩
 unfold rfE at e
 match i,e with
 | 0,e=>simp at e
 | 1,e=>simp at e; subst e; exact ⟨v,rfl,r⟩
 | i+2,e =>
  simp only [List.getElem?_cons_succ] at e
  rw [List.getElem?_replicate] at e
  split at e <;> cases e
theorem zKS {b:CS}{Q:VK}{d:D}{ρ:Env1}{S S':zA2} (e:endR (b ρ S)=.ok d S') (y:Yld X.K μ H d S' Q):zF8 X μ H { nx:=fun _ H'=>Q .non H',rt:=Q } (b ρ S):=by
 revert e
 cases b ρ S with
 | rt d' S2=>intro e; cases e; exact y
 | nx ρ' S2=>intro e; cases e; exact fun σ' H' μ' sr st re=>y _ H' μ' sr st zCq
 | bad=>intro e; cases e
 | er _ _=>intro e; cases e
 | bk _ _=>intro e; cases e
 | ct _ _=>intro e; cases e
theorem zKJ {tk x:Str}{n:Nat}{b:CS}{js:List Nat}{cb:C}{params:Arguments}{body:Expr}{scope:Scope}{N:List Str}{p lpos pos:Pos} (Rk:RefIn X.prog X.w X.K X.mg X.base tk n b) (xe:∀ c∈xoL,∀ C,X.mg c=some (.ref C)→exG X.K c=some C) (L:LamX X x) (hg:Gl X tk) (hdb:(tk == ("__debug__":Str))=false) (hr:Room 2 X.A) (lt:LamTx X params scope N js)
  (hbody:∀ (f:Addr) (cd:Value) (cl:List (Str × Addr)) (e1:Env) (outer:List Env) (s:Shared) (H:Hp) (E:XK),PE (zG3 X.prog X.w X.K X.mg X.base N (zCx x) scope f cd cl (X.A.deeper e1) outer s H E) body (tOfX (zG3 X.prog X.w X.K X.mg X.base N (zCx x) scope f cd cl (X.A.deeper e1) outer s H E) cb)) :
  PE X (.Call (.Name tk p) [.Lambda params body scope lpos] [] pos) (tOf X.K (zBd x n b js cb)):=by
 rintro pins s σ H Q I ⟨μ,ρ,S,d,S',sr,re,e,y⟩
 obtain ⟨st,fa,fd,c,yy,en,g,N',rest,C,F,m,bi,tx,hl,hm,hx,rs⟩:=Rk
 unfold zBd at e
 split at e
 ·rename_i hS
  have hS:=zGq hS
  obtain ⟨T,hT0⟩:∃ T,μ[0]?=some T:=by
   have:0<μ.length:=by rw [sr.len]; exact (List.getElem?_eq_some_iff.mp hS).1
   exact ⟨_,List.getElem?_eq_getElem this⟩
  obtain ⟨ps,hT,tt⟩:=sr.obj 0 T _ hT0 hS
  have hcl:=zAO fun x hx=>I.ok.has x (.inl (lt.frees x hx))
  refine wpAny_Call_Name_kw (zBQ I hg m ?_ hdb)
  refine W.callWith_K I.ok.mod.kin F.kp (Calls.spliced_cons (zJ5 I L hT tt hcl (by rw [lt.args]; rfl) fun f H1 s1 la I1 kp=>Calls.spliced_nil ⟨I1.kIn,?_⟩)) rfl rfl
  obtain ⟨sr1,st1⟩:=sr.made hT0 hS hT la.ch la.tab
  obtain ⟨cv,ctv,pm,hf,cT⟩:=la.fn
  have re1:=(re.up st1).comp 0 js
  refine wpAny_call (codeAny_mono (zJB (Q:=Q) F bi tx hm (fun cdv=>rs cdv _ _ _ _ (hr.mono (by omega))) hr.depth hr.hd I1.env0 fun cdv=>?_) fun r s' hq=>?_)
  ·intro pins2 σ2 s2 I2
   have hf2:=I2.base.keep f _ hf la.free la.fr (by show f∉([]); simp)
   refine ⟨⟨_,_,_,_,hf2⟩,?_⟩
   have hcd:s2.heap.CodeRec cv (zCx x):=by
    obtain ⟨c3,o3,vs3,t3,rfl,h3,d3,q3⟩:=cT
    exact ⟨c3,o3,vs3,t3,rfl,(I2.hok c3 _ h3).1,d3,q3⟩
   have ls:=zPk I1 lt fun b o e n=>I2.base.any e n (by show b∉([]); simp)
   refine zLv (hr.deeper _) (Nat.le_refl _) I2.env0 hf2 hcd lt.kind lt.co lt.gen lt.nocell (by rw [lt.args]; rfl) ls (hbody _ _ _ _ _ _ _ _) ⟨μ,stE 0 js ρ,S,sr1,re1,?_⟩
   revert e
   cases cb (stE 0 js ρ) S with
   | bad=>exact fun e=>by cases e
   | ok d' S2 =>
    intro e v H2 μ2 sr2 st2 rv
    refine ⟨μ2,rfE n .non,S2,sr2,by rw [hl]; exact zPe zCq,?_⟩
    exact zKS e (y.shift (st1.trans st2 sr2.nd))
   | er k S2 =>
    intro e H2 μ2 sr2 st2 C' hC
    dsimp only at e
    split at e
    ·rename_i hk
     have hC2:=xe k hk C' hC
     refine zM3 zLw ⟨(hx k hk C' hC2).2,fun ea oe hn hoc=>?_⟩
     obtain ⟨sr3,st3⟩:=sr2.other hn
     refine ⟨μ2,rfE n (.xc k),S2,sr3,?_,?_⟩
     ·rw [hl]
      refine zPe ?_
      exact ⟨ea,oe,C',rfl,zA4,hoc,zPs hC2⟩
     ·exact zKS e (y.shift ((st1.trans st2 sr2.nd).trans st3 sr3.nd))
    ·cases e
  ·cases r with
   | error e=>exact False.elim hq
   | ok fl =>
    cases fl with
    | ret u=>exact I1.after hq
    | next=>exact False.elim hq
    | brk=>exact False.elim hq
    | cont=>exact False.elim hq
 ·cases e
end
open PySem PySem.Spec PyProof.Rows
structure Sc where
 N:List Str
 names:List (Str × NameKind)
 fn:Option Str
noncomputable abbrev excL:List Str:=xoL
noncomputable def rzL:List Str:=["refuse_no_place","refuse_no_contact","net_within","in_row","side_by_side","cut","bridged","net_read","setting_read","number_read","name_read","word_read","words_of","line_read","refuse_unfit","net_made"]
noncomputable def mtL:List (Str × Str):=[("say","Desk.say"),("with_nets","Desk.with_nets")]
noncomputable def lamD:Str := "law"
noncomputable def tkL:List (Str × List (Str × Str)):=[]
noncomputable def rfB:CS:=(sSeq (sAsg (cLst (zA0 [(cUn (oIsX "TooMany") (cVar 1)),(cUn (oIsX "NoContact") (cVar 1)),(cUn (oIsX "NoBridge") (cVar 1))])) (gN 3)) (sSeq (sAsg (cBin oAdd (cVar 3) (cLst (zA0 [(cUn (oIsX "NoName") (cVar 1)),(cUn (oIsX "BadNote") (cVar 1)),(cUn (oIsX "NoPlace") (cVar 1))]))) (gN 3)) (sSeq (zGB (zBq "list" (zE2 zDa) (cVar 3) (zA0 [(cUn (oIsX "NoTable") (cVar 1))]))) (sSeq (sIf (zB3 (cTru (cUn (oIsX "ValueError") (cVar 1)))) (sSeq (sRet (cCon .non)) zA3) zA3) (sSeq (sRet (zBe (zD9 (zA0 [(cCon (.int 7))])) 1 [3] .one ((cTru (cBin oIx (cVar 1) (cVar 0)))) ((cVar 0)))) zA3)))))
noncomputable def rfN:List Str:=["_law_refused"]
noncomputable def bltL:List Str:=["len","range","list","tuple","min","max","zip","isinstance","all","any","int","bool","enumerate","str","sorted","dict","sum","repr","set","abs"]
noncomputable def txL:List (Str × Str):=[("FIGURES","0123456789"),("LETTERS","abcdefghijklmnopqrstuvwxyz")]
structure MgOk (ar:Str→Option Nat) (mg:Str→Option Value):Prop where
 b:∀ y:Str,y∈bltL→ar y=none→mg y=none
 t:∀ x z,txL.lookup x=some z→∃ t,mg x=some (.str z t)
structure XOk (X:Cx) (sc:Sc) (ar:Str→Option Nat) (cl:Str→List D→M D) (k:Nat):Prop where
 calm:X.calm=true
 N:X.N=sc.N
 nd:sc.N.Nodup
 gl:∀ x,sc.names.lookup x=some .globalImplicit→Gl X x
 loc:∀ x,sc.names.lookup x=some .local→X.env.scope.names.lookup x=some .local
 cel:∀ x,sc.names.lookup x=some .cell→X.env.scope.names.lookup x=some .cell
 fre:∀ x,sc.names.lookup x=some .free→X.env.scope.names.lookup x=some .cell∨X.env.scope.names.lookup x=some .free
 fnn:sc.fn.isSome=true→∀ x,X.fn x=true
 room:Room (3*k) X.A
 roomT:sc.fn=some lamD→Room (3*k+2) X.A
 lam:sc.fn=some lamD→LamX X lamD
 tk:sc.fn=some lamD→∀ t ws,tkL.lookup t=some ws→zDn X.K X.mg t ws
 rf:sc.fn=some lamD→∀ t∈rfN,RefIn X.prog X.w X.K X.mg X.base t 4 rfB
 xk:zFZ X.K=true
 xm:∀ c∈xoL,∃ C,X.mg c=some (.ref C)∧exG X.K c=some C
 xv:X.mg "ValueError"=none
 own:PassesOwn (model X.prog X.w) X.A X.env X.xe
 exc:∀ x∈excL,∃ C,X.mg x=some (.ref C)∧ExcK X.K C
 blt:MgOk ar X.mg
 dkc:∀ C,DkC X.K C→Cls X.K C∧zBW X.K C "kept"
 fm:FmIn X.w X.K X.mg
 dkn:sc.fn=some lamD→∃ C g,DkOk X.K X.mg "Desk" "kept" C g∧DkC X.K C
 mts:∀ m q,mtL.lookup m=some q→zGk X.prog X.w X.K X.mg X.base m (3*k) (zBn X.K X.mg (cl q) 2)∧∀ ds S,cl q ds S≠.bad→ds.length=2
 frm:sc.fn.isSome=true→X.stack=X.env::X.outer∧X.env.frame=some X.env.locals
 fns:∀ x n,ar x=some n→(∃ ps,zDq X.prog X.w X.K X.mg X.base x ps (3*k) (zBn X.K X.mg (cl x) n))∧∀ ds S,cl x ds S≠.bad→ds.length=n
section
variable {X:Cx}{sc:Sc}{ar:Str→Option Nat}{cl:Str→List D→M D}{k:Nat}
theorem XOk.vis (h:XOk X sc ar cl k) {x:Str} (hv:sc.names.lookup x=some .local∨sc.names.lookup x=some .cell∨sc.names.lookup x=some .free):Vis X.env.scope x:=by
 rcases hv with q | q | q
 ·exact .inl (h.loc x q)
 ·exact .inr (.inl (h.cel x q))
 ·exact .inr (h.fre x q)
noncomputable def isVis (o:Option NameKind):Bool:=o == some .local||o == some .cell||o == some .free
theorem zOp {o:Option NameKind} (h:isVis o=true):o=some .local∨o=some .cell∨o=some .free:=by
 unfold isVis at h
 simp only [Bool.or_eq_true,beq_iff_eq] at h
 rcases h with (h | h) | h
 ·exact .inl h
 ·exact .inr (.inl h)
 ·exact .inr (.inr h)
noncomputable def zDs:List Str→Str→Nat→Option Nat
 | [],_,_=>none
 | y::r,x,i=>if y=x then some i else zDs r x (i+1)
theorem zCj:∀ {N:List Str}{x:Str}{i j:Nat},zDs N x i=some j→i≤j∧N[j - i]?=some x
 | [],_,_,_,h=>by cases h
 | y::r,x,i,j,h=>by
  unfold zDs at h
  split at h
  ·simp_all
  ·obtain ⟨h1,h2⟩:=zCj h
   refine ⟨by lia,?_⟩
   have e:j - i=(j - (i+1))+1:=by lia
   rw [e,List.getElem?_cons_succ]; exact h2
noncomputable def cName (sc:Sc) (ar:Str→Option Nat) (x:Str):Option C:=match zDs sc.N x 0 with
 | some i=>if isVis (sc.names.lookup x)&&!(x == ("__debug__":Str))&&!(x == ("__classdict__":Str)) then some (cVar i) else none
 | none=>if sc.names.lookup x=some .globalImplicit∧ar x=none then
   (if x=("int":Str) then some (cCon (.ty "int")) else if x=("bool":Str) then some (cCon (.ty "bool")) else if x=("tuple":Str) then some (cCon (.ty "tuple"))
    else if x=("list":Str) then some (cCon (.ty "list")) else if x=("str":Str) then some (cCon (.ty "str"))
    else if (x == ("__debug__":Str))=false then (txL.lookup x).map fun z=>cCon (.str z)
    else none)
  else none
theorem s_name (h:XOk X sc ar cl k) {x:Str}{pos:Pos}{c:C} (e:cName sc ar x=some c):PE X (.Name x pos) (tOf X.K c):=by
 unfold cName at e
 split at e
 ·rename_i i hi
  split at e
  ·rename_i hv
   cases e
   simp only [Bool.and_eq_true,Bool.not_eq_true'] at hv
   obtain ⟨⟨h1,h2⟩,h3⟩:=hv
   have:=(zCj hi).2
   exact se_var (zFm (by rw [h.N]; exact this) (h.vis (zOp h1)) h2 h3)
  ·cases e
 ·split at e
  ·rename_i hg
   have g:=h.gl x hg.1
   have ty:∀ (n:String) (b:bootBuiltins x=some (.type n)) (hn:x ≠ "__name__") (hd:(x == ("__debug__":Str))=false) (hm:X.mg x=none),PE X (.Name x pos) (tOf X.K (cCon (.ty n))):=fun n b hn hd hm =>
    zFi (zL5 (v:=.ty n) g hm b rfl hn hd) fun K H μ=>by unfold RV; rfl
   split at e
   ·rename_i q; subst q; cases e
    exact ty "int" zPy (by decide +kernel) (by decide +kernel) (h.blt.b _ (by decide +kernel) hg.2)
   ·split at e
    ·rename_i q; subst q; cases e
     exact ty "bool" bt_bool (by decide +kernel) (by decide +kernel) (h.blt.b _ (by decide +kernel) hg.2)
    ·split at e
     ·rename_i q; subst q; cases e
      exact ty "tuple" zJo (by decide +kernel) (by decide +kernel) (h.blt.b _ (by decide +kernel) hg.2)
     ·split at e
      ·rename_i q; subst q; cases e
       exact ty "list" zIt (by decide +kernel) (by decide +kernel) (h.blt.b _ (by decide +kernel) hg.2)
      ·split at e
       ·rename_i q; subst q; cases e
        exact ty "str" zPx (by decide +kernel) (by decide +kernel) (h.blt.b _ (by decide +kernel) hg.2)
       ·split at e
        ·rename_i hd
         obtain ⟨z,hz,rfl⟩:=Option.map_eq_some_iff.mp e
         obtain ⟨tk,hm⟩:=h.blt.t x z hz
         exact zFi (zHP (v:=.str z) g hm ⟨tk,rfl⟩ hd) fun _ _ _=>zBb
        ·cases e
  ·cases e
noncomputable def zPw:Const→Option C
 | .none=>some (cCon .non)
 | .bool b=>some (cCon (.bl b))
 | .int i=>some (cCon (.int i))
 | .str x=>some (cCon (.str x))
 | _=>none
theorem zQ9 {v:Const}{j:Nat}{pos:Pos}{c:C} (e:zPw v=some c):PE X (.Constant v j pos) (tOf X.K c):=by
 cases v with
 | none=>cases e; exact zFi zL3 fun _ _ _=>zCq
 | bool b=>cases e; exact zFi pe_bl fun _ _ _=>zBE
 | int i=>cases e; exact zFi pe_int fun _ _ _=>zAl
 | str x=>cases e; exact zFi zPi fun _ _ _=>zBb
 | _=>cases e
noncomputable def opBin:Operator→Option (D→D→M D)
 | .Add=>some oAdd
 | .Sub=>some (oInt fun i j=>i - j)
 | .Mult=>some zLg
 | .Mod=>some oMod
 | .FloorDiv=>some oDiv
 | .Pow=>some oPow
 | .LShift=>some oShl
 | .RShift=>some oShr
 | .BitAnd=>some (oInt Builtin.bitAnd)
 | .BitOr=>some (oInt Builtin.bitOr)
 | .BitXor=>some (oInt Builtin.bitXor)
 | _=>none
theorem s_op {op:Operator}{o:D→D→M D} (e:opBin op=some o):OpS X.K (rAny X (binaryOp op)) o:=by
 cases op with
 | Add=>cases e; exact os_add
 | Sub=>cases e; exact os_sub
 | Mult=>cases e; exact zQH
 | Mod=>cases e; exact os_mod
 | FloorDiv=>cases e; exact os_div
 | Pow=>cases e; exact os_pow
 | LShift=>cases e; exact os_shl
 | RShift=>cases e; exact os_shr
 | BitAnd=>cases e; exact os_and
 | BitOr=>cases e; exact os_or
 | BitXor=>cases e; exact os_xor
 | _=>cases e
noncomputable def zHR:CmpOp→Option (D→D→M D)
 | .Eq=>some oEq
 | .NotEq=>some oNe
 | .Lt=>some oLt
 | .LtE=>some (oCmp fun i j=>decide (i≤j))
 | .Gt=>some (oCmp fun i j=>decide (j<i))
 | .GtE=>some (oCmp fun i j=>decide (j≤i))
 | .Is=>some oIs
 | .IsNot=>some zGJ
 | .In=>some oInS
 | .NotIn=>some (oIn true)
theorem zFI (h:Room k X.A) {op:CmpOp}{o:D→D→M D} (e:zHR op=some o):OpS X.K (rAny X (compareOp op)) o:=by
 have h1:=h.units
 have h2:=h.units0
 cases op with
 | Eq=>cases e; exact os_eq h1
 | NotEq=>cases e; exact os_ne h1
 | Lt=>cases e; exact os_lt h2
 | LtE=>cases e; exact os_le
 | Gt=>cases e; exact os_gt
 | GtE=>cases e; exact os_ge
 | Is=>cases e; exact os_is
 | IsNot=>cases e; exact zNP
 | In=>cases e; exact os_inS h1
 | NotIn=>cases e; exact zNO h1
noncomputable def zAe:Expr→Bool
 | .Starred _ _=>false
 | _=>true
theorem zA6 {a:Expr}{es:List Expr}{env:Env} (h:zAe a=true):starEach (a::es) env=(false,eval a env)::starEach es env:=by
 cases a <;> first | rfl | cases h
noncomputable def zA0? (f:Expr→Option C):List Expr→Option (List C)
 | []=>some []
 | e::es=>if zAe e then (f e).bind fun c=>(zA0? f es).map (c::·) else none
def zAF (X:Cx) (f:Expr→Option C):Prop:=∀ e c,f e=some c→PE X e (tOf X.K c)
variable {f:Expr→Option C}
theorem zBh (hf:zAF X f):∀ {es:List Expr}{cs:List C},zA0? f es=some cs→PA X es (tOfA X.K (zA0 cs))∧(∀ e∈es,zAe e=true)
 | [],cs,e=>by cases e; exact ⟨zFj,by simp⟩
 | a::es,cs,e=>by
  unfold zA0? at e
  split at e
  ·rename_i hs
   obtain ⟨c,e1,e⟩:=Option.bind_eq_some_iff.mp e
   obtain ⟨cs',e2,e⟩:=Option.map_eq_some_iff.mp e
   subst e
   obtain ⟨h1,h2⟩:=zBh hf e2
   exact ⟨zCu (hf a c e1) h1 (zA6 hs),fun e he=>by
    rcases List.mem_cons.mp he with rfl | he
    ·exact hs
    ·exact h2 e he⟩
  ·cases e
theorem zAR {es:List Expr}{env:Env}{pos:Pos} (h:∀ e∈es,zAe e=true):(backTo pos (starEach es env)).any (·.1)=false:=by
 induction es with
 | nil=>rfl
 | cons a es ih =>
  rw [zA6 (h a (by simp))]
  show (false||(backTo pos (starEach es env)).any (·.1))=false
  rw [ih fun e he=>h e (by simp [he])]; rfl
noncomputable def zEa:Expr→Bool
 | .Slice _ _ _ _=>true
 | _=>false
theorem zQx {b:Expr} (h:zEa b=false):zIE b:=by
 cases b <;> first | (intro o i; rfl) | cases h
noncomputable def zBp? (f:Expr→Option C):Option Expr→Option CO
 | none=>some zAs
 | some e=>(f e).map zBp
theorem zP8 (hf:zAF X f) {e:Option Expr}{c:CO} (h:zBp? f e=some c):PO X e (tOfO X.K c):=by
 cases e with
 | none=>cases h; exact zPS
 | some a =>
  obtain ⟨ca,e1,e2⟩:=Option.map_eq_some_iff.mp h
  subst e2
  exact zPR (hf a ca e1)
noncomputable def cSub (f:Expr→Option C) (a b:Expr):Option C:=match b with
 | .Slice lo hi none _=>(f a).bind fun ca=>(zBp? f lo).bind fun cl=>(zBp? f hi).map fun ch=>cSl oSl ca cl ch
 | _=>if zEa b then none else (f a).bind fun ca=>(f b).map fun cb=>cBin oIx ca cb
theorem s_sub (h:Room k X.A) (hf:zAF X f) {a b:Expr}{pos:Pos}{c:C} (e:cSub f a b=some c):PE X (.Subscript a b pos) (tOf X.K c):=by
 unfold cSub at e
 split at e
 ·obtain ⟨ca,e1,e⟩:=Option.bind_eq_some_iff.mp e
  obtain ⟨cl,e2,e⟩:=Option.bind_eq_some_iff.mp e
  obtain ⟨ch,e3,e⟩:=Option.map_eq_some_iff.mp e
  subst e
  exact zNk ss_sl (hf a ca e1) (zP8 hf e2) (zP8 hf e3)
 ·split at e
  ·cases e
  ·rename_i hs
   obtain ⟨ca,e1,e⟩:=Option.bind_eq_some_iff.mp e
   obtain ⟨cb,e2,e⟩:=Option.map_eq_some_iff.mp e
   subst e
   exact se_ix (os_ix (hu_of h)) (hf a ca e1) (hf b cb e2) (zQx (by simpa using hs))
noncomputable def zD3 (f:Expr→Option C) (a:Expr) (ops:List CmpOp) (bs:List Expr):Option C:=match ops,bs with
 | [op],[b]=>if behindInMarks op b then none else (zHR op).bind fun o=>(f a).bind fun ca=>(f b).map fun cb=>cBin o ca cb
 | [op,op'],[b,c]=>if lastMarks [op,op'] [b,c] then none else (zHR op).bind fun o=>(zHR op').bind fun o'=>(f a).bind fun ca=>(f b).bind fun cb=>(f c).map fun cc=>zBJ o o' ca cb cc
 | _,_=>none
theorem zKN (h:Room k X.A) (hf:zAF X f) {a:Expr}{ops:List CmpOp}{bs:List Expr}{pos:Pos}{c:C} (e:zD3 f a ops bs=some c):PE X (.Compare a ops bs pos) (tOf X.K c):=by
 unfold zD3 at e
 split at e
 ·rename_i op b
  split at e
  ·cases e
  ·rename_i hm
   obtain ⟨o,e0,e⟩:=Option.bind_eq_some_iff.mp e
   obtain ⟨ca,e1,e⟩:=Option.bind_eq_some_iff.mp e
   obtain ⟨cb,e2,e⟩:=Option.map_eq_some_iff.mp e
   subst e
   exact se_cmp (zFI h e0) (hf a ca e1) (hf b cb e2) (by simpa using hm)
 ·rename_i op op' b c
  split at e
  ·cases e
  ·rename_i hm
   obtain ⟨o,e0,e⟩:=Option.bind_eq_some_iff.mp e
   obtain ⟨o',e0',e⟩:=Option.bind_eq_some_iff.mp e
   obtain ⟨ca,e1,e⟩:=Option.bind_eq_some_iff.mp e
   obtain ⟨cb,e2,e⟩:=Option.bind_eq_some_iff.mp e
   obtain ⟨cc,e3,e⟩:=Option.map_eq_some_iff.mp e
   subst e
   exact zNp (zFI h e0) (zFI h e0') (hf a ca e1) (hf b cb e2) (hf c cc e3) (by simpa using hm)
 ·cases e
noncomputable def zFE (f:Expr→Option C) (a:Expr) (ops:List CmpOp) (bs:List Expr):Option CT:=match ops,bs with
 | [op,op',op2],[b,c,d]=>if lastMarks [op,op',op2] [b,c,d] then none else (zHR op).bind fun o=>(zHR op').bind fun o'=>(zHR op2).bind fun o2=>(f a).bind fun ca=>(f b).bind fun cb=>(f c).bind fun cc=>(f d).map fun cd=>zIs o o' o2 ca cb cc cd
 | ops,bs=>(zD3 f a ops bs).map zAa
theorem zJA (h:Room k X.A) (hf:zAF X f) {a:Expr}{ops:List CmpOp}{bs:List Expr}{pos:Pos}{c:CT} (e:zFE f a ops bs=some c):PT X (.Compare a ops bs pos) (tOfT X.K c):=by
 unfold zFE at e
 split at e
 ·rename_i op op' op2 b c d
  split at e
  ·cases e
  ·rename_i hm
   obtain ⟨o,e0,e⟩:=Option.bind_eq_some_iff.mp e
   obtain ⟨o',e0',e⟩:=Option.bind_eq_some_iff.mp e
   obtain ⟨o2,e02,e⟩:=Option.bind_eq_some_iff.mp e
   obtain ⟨ca,e1,e⟩:=Option.bind_eq_some_iff.mp e
   obtain ⟨cb,e2,e⟩:=Option.bind_eq_some_iff.mp e
   obtain ⟨cc,e3,e⟩:=Option.bind_eq_some_iff.mp e
   obtain ⟨cd,e4,e⟩:=Option.map_eq_some_iff.mp e
   subst e
   exact zKC (zFI h e0) (zFI h e0') (zFI h e02) (hf a ca e1) (hf b cb e2) (hf c cc e3) (hf d cd e4) (by simpa using hm)
 ·obtain ⟨cc,e1,e⟩:=Option.map_eq_some_iff.mp e
  subst e
  unfold zD3 at e1
  split at e1
  ·split at e1
   ·cases e1
   ·rename_i hm
    obtain ⟨o,e0,e⟩:=Option.bind_eq_some_iff.mp e1
    obtain ⟨ca,g1,e⟩:=Option.bind_eq_some_iff.mp e
    obtain ⟨cb,e2,e⟩:=Option.map_eq_some_iff.mp e
    subst e
    exact st_cmp (zFI h e0) (hf _ ca g1) (hf _ cb e2) (by simpa using hm)
  ·split at e1
   ·cases e1
   ·rename_i hm
    obtain ⟨o,e0,e⟩:=Option.bind_eq_some_iff.mp e1
    obtain ⟨o',e0',e⟩:=Option.bind_eq_some_iff.mp e
    obtain ⟨ca,g1,e⟩:=Option.bind_eq_some_iff.mp e
    obtain ⟨cb,e2,e⟩:=Option.bind_eq_some_iff.mp e
    obtain ⟨cc,e3,e⟩:=Option.map_eq_some_iff.mp e
    subst e
    exact zNd (zFI h e0) (zFI h e0') (hf _ ca g1) (hf _ cb e2) (hf _ cc e3) (by simpa using hm)
  ·cases e1
noncomputable def zCR:Expr→Bool
 | .Name _ _=>true
 | .Subscript _ _ _=>true
 | .Call _ (_::_) _ _=>true
 | .Constant (.str _) _ _=>true
 | _=>false
theorem zMT {o:Expr}{name:Str}{env:Env} (h:zCR o=true):attributeBase o name env (eval o env)=eval o env:=by
 cases o with
 | Call f args kw pos =>
  cases args with
  | nil=>cases h
  | cons a r=>cases f <;> rfl
 | Constant v j pos=>cases v <;> first | rfl | cases h
 | _=>first | rfl | cases h
noncomputable def txBlt (x:Str):Option (List D→M D):=if x=("str":Str) then some fStr else none
noncomputable def ltBlt (x:Str):Option (List D→M D) :=
 if x=("dict":Str) then some zFw else
 txBlt x
noncomputable def zOX (x:Str):Option (List D→M D) :=
 if x=("len":Str) then some fLen else
 if x=("isinstance":Str) then some zAG else
 if x=("tuple":Str) then some zCr else
 if x=("list":Str) then some zOF else
 if x=("min":Str) then some fMin else
 if x=("max":Str) then some fMax else
 if x=("all":Str) then some (zCc fun bs=>bs.all id) else
 if x=("any":Str) then some (zCc fun bs=>bs.any id) else
 if x=("int":Str) then some fInt else
 if x=("sorted":Str) then some zD0 else
 ltBlt x
noncomputable def zGF:Expr→Option (List Expr)
 | .Call (.Name x _) as [] _=>if x=("range":Str) then some as else none
 | _=>none
noncomputable def zDx:List D→M D:=fun xs S=>match xs with
 | [.int j]=>if -4611686018427387904≤j∧j<4611686018427387904∧j≤1000 then .ok (.lst S.length) (S++[.lst (upD 0 j.toNat)]) else .bad
 | [.int i,.int j]=>if -4611686018427387904≤i∧i<4611686018427387904∧-4611686018427387904≤j∧j<4611686018427387904∧j - i≤1000 then .ok (.lst S.length) (S++[.lst (upD i (j - i).toNat)]) else .bad
 | _=>.bad
noncomputable def zMJ (sc:Sc) (ar:Str→Option Nat) (cl:Str→List D→M D) (f:Expr→Option C) (x:Str) (es:List Expr):Option C :=
 if sc.names.lookup x=some .globalImplicit then
  match ar x with
  | some n=>if es.length=n∧es≠[]∧(x == ("__debug__":Str))=false then (zA0? f es).map fun cs=>cApp (cl x) (zA0 cs) else none
  | none=>match es with
   | [e] =>
    match zGF e with
    | some as=>if x=("list":Str)∧ar "range"=none∧sc.names.lookup ("range":Str)=some .globalImplicit∧(as.length=1∨as.length=2) then (zA0? f as).map fun cs=>cApp zDx (zA0 cs) else none
    | none=>(zOX x).bind fun o=>(zA0? f es).map fun cs=>cApp o (zA0 cs)
   | _::_=>(zOX x).bind fun o=>(zA0? f es).map fun cs=>cApp o (zA0 cs)
   | []=>none
 else none
theorem zN4 {K:W.Frag}{H:Hp}{μ:List Addr} (lo:Int) (n:Nat):RVs K H μ (upD lo n) (upV lo n):=by
 unfold upD upV
 generalize List.range n=l
 induction l with
 | nil=>exact .nil
 | cons a r ih=>exact .cons zAl ih
set_option maxHeartbeats 2000000 in
theorem s_blt (h:XOk X sc ar cl k) {x:Str} (hx:sc.names.lookup x=some .globalImplicit) (hn:ar x=none) {o:List D→M D} (eo:zOX x=some o) {e:Expr}{es:List Expr}{cs:List C} (ha:PA X (e::es) (tOfA X.K (zA0 cs))) (hs:∀ a∈e::es,zAe a=true) {p pos:Pos}:PE X (.Call (.Name x p) (e::es) [] pos) (tOf X.K (cApp o (zA0 cs))):=by
 have g:=h.gl x hx
 have s1:=zA6 (es:=es) (env:=X.env) (hs e (by simp))
 have s2:(backTo pos (starEach es X.env)).any (·.1)=false:=zAR fun a ha=>hs a (by simp [ha])
 unfold zOX at eo
 have B:∀ (id:String) (hb:bootBuiltins x=some (.builtin id)) (hm:X.mg x=none) (hne:x ≠ "__name__") (hd:(x == ("__debug__":Str))=false) (o:List D→M D),zBX X.K (cAny X (.builtin id)) o→PE X (.Call (.Name x p) (e::es) [] pos) (tOf X.K (cApp o (zA0 cs))):=fun id hb hm hne hd o ho =>
  (zIW zEu g hm hb ha hne hd s1 s2).weak (zPj ho)
 have T:∀ (id:String) (hb:bootBuiltins x=some (.type id)) (hm:X.mg x=none) (hne:x ≠ "__name__") (hd:(x == ("__debug__":Str))=false) (o:List D→M D),zBX X.K (cAny X (.type id)) o→PE X (.Call (.Name x p) (e::es) [] pos) (tOf X.K (cApp o (zA0 cs))):=fun id hb hm hne hd o ho =>
  (zCT zEu g hm hb ha hne hd s1 s2).weak (zPj ho)
 split at eo
 ·rename_i q; subst q; cases eo; exact B "len" bt_len (h.blt.b _ (by decide +kernel) hn) (by decide +kernel) (by decide +kernel) _ cs_len
 split at eo
 ·rename_i q; subst q; cases eo; exact B "isinstance" zGb (h.blt.b _ (by decide +kernel) hn) (by decide +kernel) (by decide +kernel) _ cs_inst
 split at eo
 ·rename_i q; subst q; cases eo; exact T "tuple" zJo (h.blt.b _ (by decide +kernel) hn) (by decide +kernel) (by decide +kernel) _ zOP
 split at eo
 ·rename_i q; subst q; cases eo; exact T "list" zIt (h.blt.b _ (by decide +kernel) hn) (by decide +kernel) (by decide +kernel) _ (cs_list h.calm)
 split at eo
 ·rename_i q; subst q; cases eo; exact B "min" bt_min (h.blt.b _ (by decide +kernel) hn) (by decide +kernel) (by decide +kernel) _ (cs_min h.calm)
 split at eo
 ·rename_i q; subst q; cases eo; exact B "max" bt_max (h.blt.b _ (by decide +kernel) hn) (by decide +kernel) (by decide +kernel) _ (cs_max h.calm)
 split at eo
 ·rename_i q; subst q; cases eo; exact B "all" bt_all (h.blt.b _ (by decide +kernel) hn) (by decide +kernel) (by decide +kernel) _ (cs_all h.calm)
 split at eo
 ·rename_i q; subst q; cases eo; exact B "any" bt_any (h.blt.b _ (by decide +kernel) hn) (by decide +kernel) (by decide +kernel) _ (cs_any h.calm)
 split at eo
 ·rename_i q; subst q; cases eo; exact T "int" zPy (h.blt.b _ (by decide +kernel) hn) (by decide +kernel) (by decide +kernel) _ cs_int
 split at eo
 ·rename_i q; subst q; cases eo; exact B "sorted" (by decide +kernel) (h.blt.b _ (by decide +kernel) hn) (by decide +kernel) (by decide +kernel) _ (zJV h.calm h.room.units)
 unfold ltBlt at eo
 split at eo
 ·rename_i q; subst q; cases eo; exact T "dict" (by decide +kernel) (h.blt.b _ (by decide +kernel) hn) (by decide +kernel) (by decide +kernel) _ (zJh h.calm)
 unfold txBlt at eo
 split at eo
 ·rename_i q; subst q; cases eo; exact T "str" zPx (h.blt.b _ (by decide +kernel) hn) (by decide +kernel) (by decide +kernel) _ cs_str
 ·cases eo
theorem zQ7 (h:XOk X sc ar cl k) (hx:sc.names.lookup ("list":Str)=some .globalImplicit) (hn:ar "list"=none) (hr:sc.names.lookup ("range":Str)=some .globalImplicit) (hnr:ar "range"=none) {as:List Expr}{cs:List C} (ha:PA X as (tOfA X.K (zA0 cs))) (hs:∀ a∈as,zAe a=true) (hl:as.length=1∨as.length=2) {p pos p2 pos2:Pos} :
  PE X (.Call (.Name "list" p) [.Call (.Name "range" p2) as [] pos2] [] pos) (tOf X.K (cApp zDx (zA0 cs))):=by
 have g1:=h.gl _ hx
 have g2:=h.gl _ hr
 have R:PE X (.Call (.Name "range" p2) as [] pos2) (tCB (cAny X (.type "range")) (tOfA X.K (zA0 cs))):=by
  cases as with
  | nil=>simp at hl
  | cons e es=>exact zCT zEu g2 (h.blt.b _ (by decide +kernel) hnr) zOV ha (by decide +kernel) (by decide +kernel) (zA6 (hs e (by simp))) (zAR fun a ha=>hs a (by simp [ha]))
 have L:=zCT (p:=p) (pos:=pos) (zEu (X:=X) (f:=.type "list")) g1 (h.blt.b _ (by decide +kernel) hn) zIt (zC7 R zFo rfl) (by decide +kernel) (by decide +kernel) rfl rfl
 refine L.weak ?_
 rintro σ H Q ⟨μ,ρ,S,d,S',sr,re,e,y⟩
 obtain ⟨xs,S1,e1,e⟩:=zA7 e
 refine ⟨μ,ρ,S,xs,S1,sr,re,e1,fun vs H1 μ1 sr1 st1 r1=>?_⟩
 have y1:=y.shift st1
 have fin:∀ (i j:Int),-4611686018427387904≤i→i<4611686018427387904→-4611686018427387904≤j→j<4611686018427387904→j - i≤1000→Yld X.K μ1 H1 (.lst S1.length) (S1++[.lst (upD i (j - i).toNat)]) Q→∀ q,H1 q=none→cAny X (.type "list") [.ref q] (upd H1 q (.rng i j)) Q:=by
  intro i j b1 b2 b3 b4 b5 y1 q hq
  obtain ⟨sr2,st2⟩:=sr1.other (o:=.rng i j) hq
  exact ⟨_,zG9 h.calm,q,i,j,rfl,zA4,b1,b2,b3,b4,by lia,fun l hl=>(y1.shift st2).newL sr2 hl (zN4 _ _)⟩
 unfold zDx at e
 split at e
 ·rename_i j
  split at e
  ·rename_i hb
   cases e
   obtain ⟨v,rfl,r⟩:=r1.one
   unfold RV at r; subst r
   refine ⟨_,zIo,j,rfl,fun q hq=>?_⟩
   have:=fin 0 j (by decide) (by decide) hb.1 hb.2.1 (by lia) (by rw [Int.sub_zero]; exact y1) q hq
   exact this
  ·cases e
 ·rename_i i j
  split at e
  ·rename_i hb
   cases e
   obtain ⟨v,u,rfl,r,r'⟩:=r1.two
   unfold RV at r r'; subst r r'
   exact ⟨_,zIn,i,j,rfl,fun q hq=>fin i j hb.1 hb.2.1 hb.2.2.1 hb.2.2.2.1 hb.2.2.2.2 y1 q hq⟩
  ·cases e
 ·cases e
theorem zQb (h:XOk X sc ar cl k) (hf:zAF X f) {x:Str}{es:List Expr}{c:C}{p pos:Pos} (e:zMJ sc ar cl f x es=some c):PE X (.Call (.Name x p) es [] pos) (tOf X.K c):=by
 unfold zMJ at e
 split at e
 ·rename_i hx
  split at e
  ·rename_i n hn
   split at e
   ·rename_i hc
    obtain ⟨hl,hne,hd⟩:=hc
    obtain ⟨cs,e1,e⟩:=Option.map_eq_some_iff.mp e
    subst e
    obtain ⟨h1,h2⟩:=zBh hf e1
    obtain ⟨⟨ps,Ca⟩,hlen⟩:=h.fns x n hn
    cases es with
    | nil=>exact absurd rfl hne
    | cons a es =>
     exact (zCS (p:=p) (pos:=pos) Ca h.room (h.gl x hx) pass1 h1 (Nat.le_refl _) hd (zA6 (h2 a (by simp))) (zAR fun b hb=>h2 b (by simp [hb]))).weak (zNU hlen)
   ·cases e
  ·rename_i hn
   split at e
   ·rename_i a
    split at e
    ·rename_i as ha
     split at e
     ·rename_i hc
      obtain ⟨rfl,hnr,hr,hl⟩:=hc
      obtain ⟨cs,e1,e⟩:=Option.map_eq_some_iff.mp e
      subst e
      obtain ⟨h1,h2⟩:=zBh hf e1
      unfold zGF at ha
      split at ha
      ·rename_i x' p' as' pos'
       split at ha
       ·rename_i q; subst q; cases ha
        exact zQ7 h hx hn hr hnr h1 h2 hl
       ·cases ha
      ·cases ha
     ·cases e
    ·obtain ⟨o,e0,e⟩:=Option.bind_eq_some_iff.mp e
     obtain ⟨cs,e1,e⟩:=Option.map_eq_some_iff.mp e
     subst e
     obtain ⟨h1,h2⟩:=zBh hf e1
     exact s_blt h hx hn e0 h1 h2
   ·obtain ⟨o,e0,e⟩:=Option.bind_eq_some_iff.mp e
    obtain ⟨cs,e1,e⟩:=Option.map_eq_some_iff.mp e
    subst e
    obtain ⟨h1,h2⟩:=zBh hf e1
    exact s_blt h hx hn e0 h1 h2
   ·cases e
 ·cases e
end
open PySem PySem.Spec PyProof.Rows
section
variable {X:Cx}{sc:Sc}{ar:Str→Option Nat}{cl:Str→List D→M D}{k:Nat}{f:Expr→Option C}
noncomputable def meth0 (m:Str) (co:C):Option C :=
 none
noncomputable def meth1 (m:Str) (co ca:C):Option C :=
 if m=("append":Str) then some (zBq "list" (zE2 zDa) co (zA0 [ca])) else
 if m=("pop":Str) then some (zBq "list" (zE2 zLP) co (zA0 [ca])) else
 if m=("join":Str) then some (zBq "str" zI0 co (zA0 [ca])) else
 if m=("find":Str) then some (zBq "str" zO8 co (zA0 [ca])) else
 if m=("split":Str) then some (zBq "str" zGN co (zA0 [ca])) else
 if m=("startswith":Str) then some (zBq "str" zJ2 co (zA0 [ca])) else
 if m=("update":Str) then some (zBq "dict" mUpd co (zA0 [ca])) else
 none
noncomputable def meth2 (m:Str) (co ca cb:C):Option C :=
 if m=("insert":Str) then some (zBq "list" (zE2 zFW) co (zA0 [ca,cb])) else
 if m=("split":Str) then some (zBq "str" zFR co (zA0 [ca,cb])) else
 none
noncomputable def zIp (f:Expr→Option C) (o:Expr) (m:Str) (es:List Expr) (apos cpos:Pos):Option C :=
 if zCR o&&(apos.endLine == cpos.line) then (f o).bind fun co=>match es with
  | []=>meth0 m co
  | [a]=>if zAe a then (f a).bind fun ca=>meth1 m co ca else none
  | [a,b]=>if zAe a&&zAe b then (f a).bind fun ca=>(f b).bind fun cb=>meth2 m co ca cb else none
  | _=>none
 else none
theorem zNs (hr0:Room k X.A) (hf:zAF X f) {o:Expr}{m:Str}{es:List Expr}{apos cpos:Pos}{c:C} (e:zIp f o m es apos cpos=some c):PE X (.Call (.Attribute o m apos) es [] cpos) (tOf X.K c):=by
 unfold zIp at e
 split at e
 ·rename_i hc
  rw [Bool.and_eq_true] at hc
  obtain ⟨hr,hl⟩:=hc
  obtain ⟨co,e0,g⟩:=Option.bind_eq_some_iff.mp e
  clear e
  have hb:∀ name,attributeBase o name X.env (eval o X.env)=eval o X.env:=fun name=>zMT hr
  split at g
  ·unfold meth0 at g
   cases g
  ·rename_i a
   split at g
   ·rename_i hs
    obtain ⟨ca,e1,g'⟩:=Option.bind_eq_some_iff.mp g
    clear g
    have s1:=zA6 (es:=[]) (env:=X.env) hs
    have hA:PA X [a] (tOfA X.K (zA0 [ca])):=zCu (hf a ca e1) zFj s1
    have hfew:((backTo cpos (starEach [a] X.env)).all (fun x=>!x.1)&&(backToKw cpos (keywordEach [] X.env)).all (fun x=>x.1.isSome)
     && decide ([a].length+([]:List Keyword).length+(if ([]:List Keyword).isEmpty then 0 else 1)<30))=true:=by rw [s1]; rfl
    unfold meth1 at g'
    split at g'
    ·rename_i q; subst q; cases g'
     exact zBO PySem.F.plainAttrs_list PySem.F.slot_list_append PySem.F.type_list_append zLq (hf o co e0) hA (hb _) hfew hl s1 rfl
    split at g'
    ·rename_i q; subst q; cases g'
     exact zBO PySem.F.plainAttrs_list PySem.F.slot_list_pop PySem.F.type_list_pop zO3 (hf o co e0) hA (hb _) hfew hl s1 rfl
    split at g'
    ·rename_i q; subst q; cases g'
     exact zBO PySem.F.plainAttrs_str PySem.F.slot_str_join PySem.F.type_str_join ms_join (hf o co e0) hA (hb _) hfew hl s1 rfl
    split at g'
    ·rename_i q; subst q; cases g'
     exact zBO PySem.F.plainAttrs_str PySem.F.slot_str_find PySem.F.type_str_find ms_find (hf o co e0) hA (hb _) hfew hl s1 rfl
    split at g'
    ·rename_i q; subst q; cases g'
     exact zBO PySem.F.plainAttrs_str PySem.F.slot_str_split PySem.F.type_str_split zO2 (hf o co e0) hA (hb _) hfew hl s1 rfl
    split at g'
    ·rename_i q; subst q; cases g'
     exact zBO PySem.F.plainAttrs_str PySem.F.slot_str_startswith PySem.F.type_str_startswith zO1 (hf o co e0) hA (hb _) hfew hl s1 rfl
    split at g'
    ·rename_i q; subst q; cases g'
     exact zBO PySem.F.plainAttrs_dict PySem.F.slot_dict_update PySem.F.type_dict_update ms_upd (hf o co e0) hA (hb _) hfew hl s1 rfl
    cases g'
   ·cases g
  ·rename_i a b
   split at g
   ·rename_i hs
    rw [Bool.and_eq_true] at hs
    obtain ⟨ca,e1,g1⟩:=Option.bind_eq_some_iff.mp g
    obtain ⟨cb,e2,g'⟩:=Option.bind_eq_some_iff.mp g1
    clear g g1
    have s2:=zA6 (es:=[]) (env:=X.env) hs.2
    have s1:=zA6 (es:=[b]) (env:=X.env) hs.1
    have hA:PA X [a,b] (tOfA X.K (zA0 [ca,cb])):=zCu (hf a ca e1) (zCu (hf b cb e2) zFj s2) s1
    have hfew:((backTo cpos (starEach [a,b] X.env)).all (fun x=>!x.1)&&(backToKw cpos (keywordEach [] X.env)).all (fun x=>x.1.isSome)
     && decide ([a,b].length+([]:List Keyword).length+(if ([]:List Keyword).isEmpty then 0 else 1)<30))=true:=by rw [s1,s2]; rfl
    unfold meth2 at g'
    split at g'
    ·rename_i q; subst q; cases g'
     exact zBO PySem.F.plainAttrs_list PySem.F.slot_list_insert PySem.F.type_list_insert zLp (hf o co e0) hA (hb _) hfew hl s1 (by rw [s2]; rfl)
    split at g'
    ·rename_i q; subst q; cases g'
     exact zBO PySem.F.plainAttrs_str PySem.F.slot_str_split PySem.F.type_str_split zLo (hf o co e0) hA (hb _) hfew hl s1 (by rw [s2]; rfl)
    cases g'
   ·cases g
  ·cases g
 ·cases e
noncomputable def zIq (f:Expr→Option C):List Expr→Option C
 | e1::e2::es=>(zA0? f (e1::e2::es)).map fun cs=>cJS cs Str.empty
 | _=>none
theorem zP9 (hf:zAF X f):∀ {es:List Expr}{cs:List C},zA0? f es=some cs→PEs X es (cs.map (tOf X.K))
 | [],cs,e=>by cases e; exact .nil
 | a::es,cs,e=>by
  unfold zA0? at e
  split at e
  ·obtain ⟨c,e1,e⟩:=Option.bind_eq_some_iff.mp e
   obtain ⟨cs',e2,rfl⟩:=Option.map_eq_some_iff.mp e
   exact .cons (hf a c e1) (zP9 hf e2)
  ·cases e
theorem zNt (hf:zAF X f) {es:List Expr}{pos:Pos}{c:C} (e:zIq f es=some c):PE X (.JoinedStr es pos) (tOf X.K c):=by
 unfold zIq at e
 split at e
 ·obtain ⟨cs,e1,rfl⟩:=Option.map_eq_some_iff.mp e
  exact (zL4 (zP9 hf e1)).weak (of_js _ _)
 ·cases e
noncomputable def cDNew:C:=fun _ S=>.ok (.dct S.length) (S++[.dk []])
theorem zQ4 {pos:Pos}:PE X (.Dict [] [] pos) (tOf X.K cDNew):=zIV.weak (by
 rintro σ H Q ⟨μ,ρ,S,d,S',sr,re,e,y⟩
 cases e
 intro p hp
 obtain ⟨s1,s2⟩:=sr.push (o':=.dk []) hp ⟨[],zA4,RKs.nil⟩
 exact y _ _ _ s1 s2 (by exact ⟨p,rfl,by rw [← sr.len,List.getElem?_append_right (Nat.le_refl _),Nat.sub_self]; rfl⟩))
noncomputable def zOU (a b:C):C:=fun ρ=>bnd (a ρ) fun x=>bnd (b ρ) fun y S=>match zFT x with
 | some k=>.ok (.dct S.length) (S++[.dk [(k,y)]])
 | none=>.bad
theorem zQ3 {a b:Expr}{ca cb:C}{pos:Pos} (ha:PE X a (tOf X.K ca)) (hb:PE X b (tOf X.K cb)):PE X (.Dict [some a] [b] pos) (tOf X.K (zOU ca cb)):=(zQA (zNE ha hb zQu) rfl rfl (by simp) (by simp)).weak (by
 rintro σ H Q ⟨μ,ρ,S,d,S',sr,re,e,y⟩
 obtain ⟨x,S1,e1,f1⟩:=zA7 e
 obtain ⟨z,S2,e2,f2⟩:=zA7 f1
 split at f2
 ·rename_i key hk
  cases f2
  intro p hp
  obtain ⟨s1,s2⟩:=sr.other hp
  refine ⟨μ,ρ,S,x,S1,s1,re.up s2,e1,fun v H1 μ1 sr1 st1 r1=>⟨μ1,ρ,S1,z,S2,sr1,(re.up s2).up st1,e2,fun u H2 μ2 sr2 st2 r2=>?_⟩⟩
  have n0:=sr.out hp
  have q0:upd H p (.dK []) p=some (.dK []):=zA4
  have q1:=st1.fr p _ n0 q0
  have n1:=st1.notIn n0 q0
  have q2:=st2.fr p _ n1 q1
  have n2:=st2.notIn n1 q1
  have ev:=zE9 hk r1
  subst ev
  refine ⟨q2,[(key,u)],rfl,by simp,?_⟩
  have tk:TF X.K H2 (upd H2 p (.dK [(key,u)])):=zFb q2 (fun _ z=>by cases z) (fun _ _ z=>by cases z)
  have st12:=st1.trans st2 sr2.nd
  have st02:=s2.trans st12 sr2.nd
  have sr3:SR X.K (μ2++[p]) (S2++[.dk [(key,z)]]) (upd H2 p (.dK [(key,u)])):=by
   refine ⟨by simp [sr2.len],?_,fun n a w g1 g2=>?_⟩
   ·rw [List.nodup_append]
    refine ⟨sr2.nd,by simp,fun a ha b hb=>?_⟩
    simp at hb; subst hb
    exact fun z=>n2 (z▸ha)
   ·by_cases hn:n<μ2.length
    ·rw [List.getElem?_append_left hn] at g1
     rw [List.getElem?_append_left (by rw [← sr2.len]; exact hn)] at g2
     exact (sr2.obj n a w g1 g2).up tk ⟨[p],rfl⟩ (zA5 fun z=>n2 (z▸List.mem_of_getElem? g1))
    ·rw [List.getElem?_append_right (by lia)] at g1
     rw [List.getElem?_append_right (by rw [← sr2.len]; lia)] at g2
     have h1:=by
      have:=(List.getElem?_eq_some_iff.mp g1).1
      simp at this; omega
     rw [h1] at g1
     rw [← sr2.len,h1] at g2
     simp at g1 g2
     subst g1 g2
     exact ⟨[(key,u)],zA4,RKs.cons (RV.up tk ⟨[p],rfl⟩ _ _ r2) .nil⟩
  have st3:Step X.K μ (μ2++[p]) H (upd H2 p (.dK [(key,u)])):=by
   obtain ⟨ν,e4,n⟩:=st02.pre
   refine ⟨⟨ν++[p],by rw [e4,List.append_assoc],fun b hb=>?_⟩,fun b o hb q=>by rw [zA5 (zAm q hp)]; exact st02.fr b o hb q,st02.tk.trans tk⟩
   rcases List.mem_append.mp hb with h | h
   ·exact n b h
   ·simp at h; subst h; exact hp
  exact y _ _ _ sr3 st3 (by exact ⟨p,rfl,by rw [← sr2.len,List.getElem?_append_right (Nat.le_refl _),Nat.sub_self]; rfl⟩)
 ·cases f2)
noncomputable def cDict (f:Expr→Option C) (ks:List (Option Expr)) (vs:List Expr):Option C:=match ks,vs with
 | [],[]=>some cDNew
 | [some a],[b]=>(f a).bind fun ca=>(f b).map fun cb=>zOU ca cb
 | _,_=>none
theorem s_dict (hf:zAF X f) {ks:List (Option Expr)}{vs:List Expr}{pos:Pos}{c:C} (e:cDict f ks vs=some c):PE X (.Dict ks vs pos) (tOf X.K c):=by
 unfold cDict at e
 split at e
 ·cases e; exact zQ4
 ·obtain ⟨ca,e1,e⟩:=Option.bind_eq_some_iff.mp e
  obtain ⟨cb,e2,e⟩:=Option.map_eq_some_iff.mp e
  subst e
  exact zQ3 (hf _ _ e1) (hf _ _ e2)
 ·cases e
noncomputable def zMK (op:BoolOp) (f:Expr→Option C):List Expr→Option C
 | []=>none
 | [a]=>f a
 | a::b::r=>(f a).bind fun ca=>(zMK op f (b::r)).map fun cb=>match op with
  | .And=>zDg ca cb
  | .Or=>cOrV ca cb
theorem zHL (hf:zAF X f) {op:BoolOp}{pos:Pos}:∀ {vs:List Expr}{c:C},zMK op f vs=some c→PE X (.BoolOp op vs pos) (tOf X.K c)
 | [],c,e=>by cases e
 | [a],c,e=>pe_one (hf a c e)
 | a::b::r,c,e=>by
  obtain ⟨ca,e1,e⟩:=Option.bind_eq_some_iff.mp e
  obtain ⟨cb,e2,e⟩:=Option.map_eq_some_iff.mp e
  subst e
  cases op with
  | And=>exact se_and (hf a ca e1) (zHL hf e2)
  | Or=>exact se_or (hf a ca e1) (zHL hf e2)
def zFD (X:Cx) (t:Expr→Option CT):Prop:=∀ e c,t e=some c→PT X e (tOfT X.K c)
variable {t:Expr→Option CT}
noncomputable def zML (op:BoolOp) (t:Expr→Option CT):List Expr→Option CT
 | []=>none
 | [a]=>t a
 | a::b::r=>(t a).bind fun ca=>(zML op t (b::r)).map fun cb=>match op with
  | .And=>zK6 ca cb
  | .Or=>cOrT ca cb
theorem zHM (ht:zFD X t) {op:BoolOp}{pos:Pos}:∀ {vs:List Expr}{c:CT},zML op t vs=some c→PW X (.BoolOp op vs pos) (tOfT X.K c)
 | [],c,e=>by cases e
 | [a],c,e=>by
  cases op with
  | And=>exact zQm (ht a c e)
  | Or=>exact pw_or1 (ht a c e)
 | a::b::r,c,e=>by
  obtain ⟨ca,e1,e⟩:=Option.bind_eq_some_iff.mp e
  obtain ⟨cb,e2,e⟩:=Option.map_eq_some_iff.mp e
  subst e
  cases op with
  | And=>exact sw_and (ht a ca e1) (zHM ht e2)
  | Or=>exact sw_or (ht a ca e1) (zHM ht e2)
noncomputable def zAx:Expr→Bool
 | .Tuple _ _ _=>true
 | _=>false
noncomputable def zGW:Expr→Bool
 | .Set _ _ _=>true
 | _=>false
theorem zCZ {iter:Expr}{env:Env} (h:zGW iter=false):∀ x,foldedSetIterable iter env x=pure x:=by
 cases iter <;> first | (intro x; rfl) | cases h
noncomputable def zMH (o:Option (List C)) (es:List Expr):Option CI:=o.bind fun cs=>match es with
 | [_]=>some (zD9 (zA0 cs))
 | [_,_]=>some (zI4 (zA0 cs))
 | _=>none
noncomputable def cZipI (t:Bool) (o:Option (List C)) (es:List Expr):Option CI:=if t=true then o.bind fun cs=>match es with
  | [_,_]=>some (zOw (zA0 cs))
  | _=>none
 else none
noncomputable def zMI (t:Bool) (o:Option (List C)) (es:List Expr):Option CI:=if t=true then o.bind fun cs=>match es with
  | [_]=>some (zJb (zA0 cs))
  | _=>none
 else none
noncomputable def zIr (sc:Sc) (ar:Str→Option Nat) (f:Expr→Option C) (tg iter:Expr):Option CI:=if zGW iter then none else match iter with
 | .Call (.Name x _) es [] _=>if sc.names.lookup x=some .globalImplicit∧ar x=none then
   (if x=("range":Str) then zMH (zA0? f es) es else
    if x=("zip":Str) then cZipI (zAx tg) (zA0? f es) es else
    if x=("enumerate":Str) then zMI (zAx tg) (zA0? f es) es else
    (f iter).map iSeq)
  else (f iter).map iSeq
 | _=>(f iter).map fun c=>iOr (iSeq c) (iTxt c)
theorem zNr (hf:zAF X f) {tg:Expr}{es:List Expr}{c:CI}{p pos:Pos} (g:Gl X "range") (hm:X.mg "range"=none) (e:zMH (zA0? f es) es=some c):PI X tg (.Call (.Name "range" p) es [] pos) (tOfI X.K c):=by
 obtain ⟨cs,e1,e2⟩:=Option.bind_eq_some_iff.mp e
 clear e
 obtain ⟨h1,h2⟩:=zBh hf e1
 match es,h1,h2,e2 with
 | [a],h1,h2,e2 =>
  cases e2
  exact zKG (zL1 g hm h1 (by rw [zA6 (h2 a (by simp))]; rfl))
 | [a,b],h1,h2,e2 =>
  cases e2
  exact zKF (zL0 g hm h1 (by rw [zA6 (h2 a (by simp)),zA6 (h2 b (by simp))]; rfl) (by rw [zA6 (h2 b (by simp))]; rfl))
 | [],h1,h2,e2=>cases e2
 | _::_::_::_,h1,h2,e2=>cases e2
theorem zLD {tg:Expr} (h:zAx tg=true):∃ es k pos,tg=.Tuple es k pos:=by
 cases tg <;> first | exact ⟨_,_,_,rfl⟩ | cases h
theorem s_zipI (hf:zAF X f) {tg:Expr}{es:List Expr}{c:CI}{p pos:Pos} (g:Gl X "zip") (hm:X.mg "zip"=none) (e:cZipI (zAx tg) (zA0? f es) es=some c):PI X tg (.Call (.Name "zip" p) es [] pos) (tOfI X.K c):=by
 unfold cZipI at e
 by_cases ht:zAx tg=true
 ·rw [if_pos ht] at e
  obtain ⟨ts,kt,pt,rfl⟩:=zLD ht
  obtain ⟨cs,e1,e2⟩:=Option.bind_eq_some_iff.mp e
  clear e ht
  obtain ⟨h1,h2⟩:=zBh hf e1
  match es,h1,h2,e2 with
  | [a,b],h1,h2,e2 =>
   cases e2
   exact si_zip (zQy g hm h1 (by rw [zA6 (h2 a (by simp)),zA6 (h2 b (by simp))]; rfl) (by rw [zA6 (h2 b (by simp))]; rfl))
  | _::_::_::_,h1,h2,e2=>cases e2
  | [],h1,h2,e2=>cases e2
  | [_],h1,h2,e2=>cases e2
 ·rw [if_neg ht] at e; cases e
theorem zQ8 (hf:zAF X f) {tg:Expr}{es:List Expr}{c:CI}{p pos:Pos} (g:Gl X "enumerate") (hm:X.mg "enumerate"=none) (e:zMI (zAx tg) (zA0? f es) es=some c):PI X tg (.Call (.Name "enumerate" p) es [] pos) (tOfI X.K c):=by
 unfold zMI at e
 by_cases ht:zAx tg=true
 ·rw [if_pos ht] at e
  obtain ⟨ts,kt,pt,rfl⟩:=zLD ht
  obtain ⟨cs,e1,e2⟩:=Option.bind_eq_some_iff.mp e
  clear e ht
  obtain ⟨h1,h2⟩:=zBh hf e1
  match es,h1,h2,e2 with
  | [a],h1,h2,e2 =>
   cases e2
   exact zPW (zNG g hm h1 (by rw [zA6 (h2 a (by simp))]; rfl))
  | [],h1,h2,e2=>cases e2
  | _::_::_,h1,h2,e2=>cases e2
 ·rw [if_neg ht] at e; cases e
theorem zIR (h:XOk X sc ar cl k) (hf:zAF X f) {tg iter:Expr}{c:CI} (e:zIr sc ar f tg iter=some c):PI X tg iter (tOfI X.K c)∧zGW iter=false:=by
 unfold zIr at e
 split at e
 ·cases e
 rename_i hset
 refine ⟨?_,by simpa using hset⟩
 have dflt:∀ {c},(f iter).map iSeq=some c→PI X tg iter (tOfI X.K c):=fun e=>by
  obtain ⟨ca,e1,e⟩:=Option.map_eq_some_iff.mp e
  subst e
  exact zP7 (hf _ _ e1)
 split at e
 ·rename_i x p es pos
  split at e
  ·rename_i hx
   have g:=h.gl x hx.1
   split at e
   ·rename_i q; subst q
    exact zNr hf g (h.blt.b _ (by decide +kernel) hx.2) e
   split at e
   ·rename_i q; subst q
    exact s_zipI hf g (h.blt.b _ (by decide +kernel) hx.2) e
   split at e
   ·rename_i q; subst q
    exact zQ8 hf g (h.blt.b _ (by decide +kernel) hx.2) e
   exact dflt e
  ·exact dflt e
 ·obtain ⟨ca,e1,e⟩:=Option.map_eq_some_iff.mp e
  subst e
  exact si_or (zP7 (hf _ _ e1)) (si_txt (hf _ _ e1))
noncomputable def zFQ:List Expr→Option (List Str)
 | []=>some []
 | .Name x _::r=>(zFQ r).map (x::·)
 | _::_=>none
noncomputable def zKs:Expr→Option (Tgt × List Str)
 | .Name x _=>some (.one,[x])
 | .Tuple es _ _=>(zFQ es).map fun xs=>(.many xs.length,xs)
 | _=>none
noncomputable def zAb (ns:List (Str × NameKind)):List Str:=(ns.filter fun y=>y.2 == .free).map (·.1)
noncomputable def slots (N:List Str):List Str→Option (List Nat)
 | []=>some []
 | x::r=>(zDs N x 0).bind fun j=>(slots N r).map (j::·)
noncomputable def zCs (xs:List Str) (scope:Scope):Sc:=⟨xs++zAb scope.names,scope.names,none⟩
noncomputable def compOk (sc:Sc) (xs:List Str) (scope:Scope):Bool :=
 decide (scope.kind=.function)&&scope.names.all (fun y=>y.2 != .cell||scope.names.lookup y.1 == some .cell)&&scope.names.all (fun y=>y.2 != .local||scope.names.lookup y.1 == some .local)
 && decide ((xs++zAb scope.names).Nodup)&&xs.all (fun x=>scope.names.lookup x == some .local||scope.names.lookup x == some .cell)&&decide (1≤xs.length)
 && (zAb scope.names).all (fun x=>(sc.names.lookup x == some .cell||sc.names.lookup x == some .free)&&scope.names.lookup x == some .free)
noncomputable def zFB (sc:Sc) (it:Option CI) (fe:Sc→Expr→Option C) (ft:Sc→Expr→Option CT) (tg elt:Expr) (ifs:List Expr) (scope:Scope):Option C :=
 (zKs tg).bind fun p=>if compOk sc p.2 scope then (slots sc.N (zAb scope.names)).bind fun js=>it.bind fun ci=>(fe (zCs p.2 scope) elt).bind fun ce=>match ifs with
  | []=>some (zBe ci p.2.length js p.1 (fun _=>ret true) ce)
  | [q]=>(ft (zCs p.2 scope) q).map fun ct=>zBe ci p.2.length js p.1 ct ce
  | _=>none
 else none
theorem zCK {N:List Str}:∀ {xs:List Str}{js:List Nat},slots N xs=some js→js.length=xs.length∧∀ (i j:Nat),js[i]?=some j→∃ x,xs[i]?=some x∧N[j]?=some x
 | [],js,e=>by cases e; exact ⟨rfl,fun i j h=>by simp at h⟩
 | x::r,js,e=>by
  obtain ⟨j0,e1,e⟩:=Option.bind_eq_some_iff.mp e
  obtain ⟨js',e2,e⟩:=Option.map_eq_some_iff.mp e
  subst e
  obtain ⟨h1,h2⟩:=zCK e2
  refine ⟨by simp [h1],fun i j h=>?_⟩
  cases i with
  | zero=>simp at h; subst h; exact ⟨x,rfl,(zCj e1).2⟩
  | succ i =>
   obtain ⟨y,g1,g2⟩:=h2 i j h
   exact ⟨y,by exact g1,g2⟩
theorem zBi {env:Env}:∀ {names:List (Str × NameKind)}{x:Str}{k:NameKind},k≠.free→names.lookup x=some k →
  (names.map fun (n,k)=>if (k == NameKind.free&&env.scope.kind == .function&&env.kindOf n == some .cell) then (n,NameKind.cell) else (n,k)).lookup x=some k
 | [],_,_,_,h=>by simp at h
 | (n,k')::r,x,k,nf,h=>by
  have ih:=@zBi env r x k nf
  show List.lookup x ((if (k' == NameKind.free&&env.scope.kind == .function&&env.kindOf n == some .cell)=true then (n,NameKind.cell) else (n,k'))::_)=_
  cases hx:x == n with
  | true =>
   simp only [List.lookup_cons,hx] at h
   cases h
   have e:=by simpa using nf
   simp [List.lookup_cons,hx,e]
  | false =>
   simp only [List.lookup_cons,hx] at h
   by_cases hc:(k' == NameKind.free&&env.scope.kind == .function&&env.kindOf n == some .cell)=true
   ·rw [if_pos hc]; simp only [List.lookup_cons,hx]; exact ih h
   ·rw [if_neg hc]; simp only [List.lookup_cons,hx]; exact ih h
theorem zOb {ns:List (Str × NameKind)}{x:Str}{k:NameKind} (h:ns.lookup x=some k):(x,k)∈ns:=zAT h
theorem XOk.comp (h:XOk X sc ar cl k) {xs:List Str}{scope:Scope} (hc:compOk sc xs scope=true) (cl':List (Str × Addr)) (s:Shared) (H:Hp) (C:Addr) (ex:List Addr):XOk (zAj X scope (xs++zAb scope.names) cl' s H C ex) (zCs xs scope) ar cl k:=by
 unfold compOk at hc
 simp only [Bool.and_eq_true,decide_eq_true_eq] at hc
 obtain ⟨⟨⟨⟨⟨⟨c1,c2⟩,c3⟩,c4⟩,c5⟩,c6⟩,c7⟩:=hc
 exact {
  calm:=h.calm
  N:=rfl
  nd:=c4
  gl:=fun x hx=>zBi (by decide) hx
  loc:=fun x hx=>zBi (by decide) hx
  cel:=fun x hx=>zBi (by decide) hx
  fre:=fun x hx=>zDt hx
  fnn:=fun z=>by cases z
  room:=h.room
  roomT:=fun z=>by cases z
  lam:=fun z=>by cases z
  tk:=fun z=>by cases z
  rf:=fun z=>by cases z
  xk:=h.xk
  xm:=h.xm
  xv:=h.xv
  own:=PassesOwn.never
  exc:=h.exc
  blt:=h.blt
  dkc:=h.dkc
  fm:=h.fm
  dkn:=fun z=>by cases z
  mts:=h.mts
  frm:=fun z=>by cases z
  fns:=h.fns }
theorem zE0:∀ {es:List Expr}{xs:List Str},zFQ es=some xs→es.length=xs.length∧∀ (i:Nat) (e:Expr),es[i]?=some e→∃ x pos,e=.Name x pos∧xs[i]?=some x
 | [],xs,h=>by cases h; exact ⟨rfl,fun i e h=>by simp at h⟩
 | a::r,xs,h=>by
  cases a with
  | Name x pos =>
   obtain ⟨ys,e1,e⟩:=Option.map_eq_some_iff.mp h
   subst e
   obtain ⟨h1,h2⟩:=zE0 e1
   refine ⟨by simp [h1],fun i e he=>?_⟩
   cases i with
   | zero=>simp at he; subst he; exact ⟨x,pos,rfl,rfl⟩
   | succ i =>
    obtain ⟨y,p,g1,g2⟩:=h2 i e he
    exact ⟨y,p,g1,by exact g2⟩
  | _=>cases h
theorem zEG {x:Str}{pos:Pos}{es:List Expr}{env:Env}:assignEach (.Name x pos::es) env=(false,assign (.Name x pos) env)::assignEach es env:=rfl
theorem zGG:∀ {es:List Expr}{s:Nat},(∀ (i:Nat) (e:Expr),es[i]?=some e→∃ x pos,e=.Name x pos∧X.N[s+i]?=some x∧Loc X.env.scope x∧(X.fn x=true∨X.env.scope.names.lookup x=some .local))→X.N.Nodup→PGs X es (zJc s es.length)
 | [],s,h,nd=>zL2
 | a::r,s,h,nd=>by
  obtain ⟨x,pos,rfl,g1,g2,g3⟩:=h 0 a rfl
  refine zIT (zC6 nd (by simpa using g1) g2 g3) (zGG (fun i e he=>?_) nd) rfl
  obtain ⟨y,p,q1,q2,q3⟩:=h (i+1) e (by exact he)
  exact ⟨y,p,q1,by rw [show s+1+i=s+(i+1) by lia]; exact q2,q3⟩
theorem zBV {env:Env}:∀ {es:List Expr}{xs:List Str},zFQ es=some xs→(assignEach es env).length=xs.length∧(assignEach es env).findIdx? (·.1)=none
 | [],xs,h=>by cases h; exact ⟨rfl,rfl⟩
 | a::r,xs,h=>by
  cases a with
  | Name x pos =>
   obtain ⟨ys,e1,e⟩:=Option.map_eq_some_iff.mp h
   subst e
   obtain ⟨h1,h2⟩:=zBV (env:=env) e1
   rw [zEG]
   exact ⟨by simp [h1],by rw [List.findIdx?_cons]; simp [h2]⟩
  | _=>cases h
theorem zKr {tg:Expr}{t:Tgt}{xs:List Str} (e:zKs tg=some (t,xs)):tgtK t=xs.length:=by
 cases tg with
 | Name x pos=>cases e; rfl
 | Tuple es n pos =>
  obtain ⟨ys,e1,e⟩:=Option.map_eq_some_iff.mp e
  cases e
  rfl
 | _=>cases e
theorem zIK {X':Cx}{sc':Sc} (h:XOk X' sc' ar cl k) {x:Str} (g:sc'.names.lookup x=some .local∨sc'.names.lookup x=some .cell∧X'.fn x=true):Loc X'.env.scope x∧(X'.fn x=true∨X'.env.scope.names.lookup x=some .local):=by
 rcases g with g | ⟨g,f⟩
 ·exact ⟨.inl (h.loc x g),.inr (h.loc x g)⟩
 ·exact ⟨.inr (h.cel x g),.inl f⟩
theorem s_tgt {X':Cx}{sc':Sc} (h:XOk X' sc' ar cl k) {tg:Expr}{t:Tgt}{xs:List Str} (e:zKs tg=some (t,xs)) (hN:∀ (i:Nat) (x:Str),xs[i]?=some x→sc'.N[i]?=some x∧(sc'.names.lookup x=some .local∨sc'.names.lookup x=some .cell∧X'.fn x=true)):PG X' tg (tOfT' X'.K t)∧tgtK t=xs.length:=by
 have nd:X'.N.Nodup:=by rw [h.N]; exact h.nd
 cases tg with
 | Name x pos =>
  cases e
  obtain ⟨g1,g2⟩:=hN 0 x rfl
  obtain ⟨l1,l2⟩:=zIK h g2
  exact ⟨zC6 nd (by rw [h.N]; exact g1) l1 l2,rfl⟩
 | Tuple es n pos =>
  obtain ⟨ys,e1,e⟩:=Option.map_eq_some_iff.mp e
  cases e
  obtain ⟨a1,a2⟩:=zBV e1
  obtain ⟨n1,n2⟩:=zE0 e1
  refine ⟨?_,rfl⟩
  have:=zGG (fun i e he=>by
   obtain ⟨x,pos,rfl,g⟩:=n2 i e he
   obtain ⟨g1,g2⟩:=hN i x g
   obtain ⟨l1,l2⟩:=zIK h g2
   exact ⟨x,pos,rfl,by rw [h.N,Nat.zero_add]; exact g1,l1,l2⟩) nd
  rw [n1] at this
  exact zPg h.calm this a1 a2
 | _=>cases e
theorem zMm (h:XOk X sc ar cl k) {xs:List Str}{scope:Scope}{js:List Nat} (hc:compOk sc xs scope=true) (e1:slots sc.N (zAb scope.names)=some js):zHE X scope (xs++zAb scope.names) xs.length js:=by
 obtain ⟨l1,l2⟩:=zCK e1
 unfold compOk at hc
 simp only [Bool.and_eq_true,decide_eq_true_eq] at hc
 obtain ⟨⟨⟨⟨⟨⟨c1,c2⟩,c3⟩,c4⟩,c5⟩,c6⟩,c7⟩:=hc
 have hf7:=fun x hx=>by
  have hm:x∈zAb scope.names:=by
   unfold zAb
   rw [List.mem_map]
   exact ⟨(x,.free),by rw [List.mem_filter]; exact ⟨hx,by simp⟩,rfl⟩
  have:=List.all_eq_true.mp c7 x hm
  simpa using this
 refine ⟨h.calm,c1,fun x hx=>?_,fun x hx=>?_,fun x hx hxl=>?_,?_,fun i j hj=>?_⟩
 ·have:=List.all_eq_true.mp c2 _ hx
  simpa using this
 ·rcases (hf7 x hx).1 with q | q
  ·exact .inl (h.cel x q)
  ·exact h.fre x q
 ·have:=List.all_eq_true.mp c3 x hx
  simp only [Bool.or_eq_true,bne_iff_ne,beq_iff_eq] at this
  rcases this with z | z
  ·exact absurd hxl z
  ·exact z
 ·rw [List.length_append,l1]
 ·obtain ⟨x,g1,g2⟩:=l2 i j hj
  have hm:(x,NameKind.free)∈scope.names:=by
   have:=List.mem_of_getElem? g1
   unfold zAb at this
   rw [List.mem_map] at this
   obtain ⟨⟨y,ky⟩,m1,m2⟩:=this
   rw [List.mem_filter] at m1
   dsimp only at m2
   subst m2
   have:=by simpa using m1.2
   subst this
   exact m1.1
  obtain ⟨v1,v2⟩:=hf7 x hm
  refine ⟨x,?_,by rw [h.N]; exact g2,v2,h.vis (.inr v1)⟩
  rw [List.getElem?_append_right (by lia),Nat.add_sub_cancel_left]; exact g1
theorem zMi (h:XOk X sc ar cl k) {xs:List Str}{scope:Scope}{tg:Expr}{t:Tgt} (hc:compOk sc xs scope=true) (e0:zKs tg=some (t,xs)) (cl':List (Str × Addr)) (s:Shared) (H:Hp) (C:Addr) (ex:List Addr):PG (zAj X scope (xs++zAb scope.names) cl' s H C ex) tg (tOfT' X.K t) :=
 (s_tgt (h.comp hc cl' s H C ex) e0 fun i x hx=>by
  unfold compOk at hc
  simp only [Bool.and_eq_true] at hc
  have c5:=hc.1.1.2
  have hl:=(List.getElem?_eq_some_iff.mp hx).1
  refine ⟨?_,?_⟩
  ·show (xs++zAb scope.names)[i]?=some x
   rw [List.getElem?_append_left hl]; exact hx
  ·have:=List.all_eq_true.mp c5 x (List.mem_of_getElem? hx)
   rw [Bool.or_eq_true,beq_iff_eq,beq_iff_eq] at this
   rcases this with z | z
   ·exact .inl z
   ·exact .inr ⟨z,decide_eq_true (zOb z)⟩).1
inductive ComprE (X:Cx) (sc:Sc) (tg iter elt:Expr) (ifs:List Expr) (scope:Scope) (c:C):Prop
 | mk (t:Tgt) (xs:List Str) (js:List Nat) (ci:CI) (ct:CT) (ce:C) (B:zHE X scope (xs++zAb scope.names) xs.length js) (hi:PI X tg iter (tOfI X.K ci)) (hs:zGW iter=false)
  (hg:∀ cl' s H C ex,PG (zAj X scope (xs++zAb scope.names) cl' s H C ex) tg (tOfT' X.K t)) (hT:∀ cl' s H C ex,PTs (zAj X scope (xs++zAb scope.names) cl' s H C ex) ifs (tOfT X.K ct))
  (hE:∀ cl' s H C ex,PE (zAj X scope (xs++zAb scope.names) cl' s H C ex) elt (tOf X.K ce)) (ht:tgtK t≤xs.length) (h1:1≤xs.length) (hc:c=zBe ci xs.length js t ct ce)
theorem zMh (h:XOk X sc ar cl k) {it:Option CI}{fe:Sc→Expr→Option C}{ft:Sc→Expr→Option CT}{tg iter elt:Expr}{ifs:List Expr}{scope:Scope}{c:C} (e:zFB sc it fe ft tg elt ifs scope=some c)
  (hi:∀ ci,it=some ci→PI X tg iter (tOfI X.K ci)∧zGW iter=false) (hfe:∀ X' sc',XOk X' sc' ar cl k→zAF X' (fe sc')) (hft:∀ X' sc',XOk X' sc' ar cl k→zFD X' (ft sc')):ComprE X sc tg iter elt ifs scope c:=by
 obtain ⟨⟨t,xs⟩,e0,e⟩:=Option.bind_eq_some_iff.mp e
 dsimp only at e
 by_cases hc:compOk sc xs scope=true
 ·rw [if_pos hc] at e
  obtain ⟨js,e1,u1⟩:=Option.bind_eq_some_iff.mp e
  obtain ⟨ci,e2,u2⟩:=Option.bind_eq_some_iff.mp u1
  obtain ⟨ce,e3,u3⟩:=Option.bind_eq_some_iff.mp u2
  clear e u1 u2
  obtain ⟨i1,i2⟩:=hi ci e2
  have c6:=by
   have hc':=hc
   unfold compOk at hc'
   simp only [Bool.and_eq_true,decide_eq_true_eq] at hc'
   exact hc'.1.2
  have hE:=fun cl' s H C ex=>hfe _ _ (h.comp hc cl' s H C ex) elt ce e3
  have ht:tgtK t≤xs.length:=by rw [zKr e0]; exact Nat.le_refl _
  cases ifs with
  | nil =>
   cases u3
   exact ⟨t,xs,js,ci,_,ce,zMm h hc e1,i1,i2,zMi h hc e0,fun cl' s H C ex pins s' σ H' Q I ⟨μ,ρ,S,d,S',sr,re,e,y⟩=>zKT pins s' σ H' Q I (by obtain ⟨rfl,rfl⟩:=zAd e; exact y H' μ sr (Step.refl _ _ _)),hE,ht,c6,rfl⟩
  | cons q r =>
   cases r with
   | nil =>
    obtain ⟨ct,e4,u4⟩:=Option.map_eq_some_iff.mp u3
    exact ⟨t,xs,js,ci,ct,ce,zMm h hc e1,i1,i2,zMi h hc e0,fun cl' s H C ex=>zQn (hft _ _ (h.comp hc cl' s H C ex) q ct e4),hE,ht,c6,u4.symm⟩
   | cons _ _=>cases u3
 ·rw [if_neg hc] at e; cases e
theorem zQa (h:XOk X sc ar cl k) {it:Option CI}{fe:Sc→Expr→Option C}{ft:Sc→Expr→Option CT}{tg iter elt:Expr}{ifs:List Expr}{scope:Scope}{pos:Pos}{c:C} (e:zFB sc it fe ft tg elt ifs scope=some c)
  (hi:∀ ci,it=some ci→PI X tg iter (tOfI X.K ci)∧zGW iter=false) (hfe:∀ X' sc',XOk X' sc' ar cl k→zAF X' (fe sc')) (hft:∀ X' sc',XOk X' sc' ar cl k→zFD X' (ft sc')):PE X (.ListComp elt [⟨tg,iter,ifs,0⟩] scope pos) (tOf X.K c):=by
 obtain ⟨t,xs,js,ci,ct,ce,B,i1,i2,hg,hT,hE,ht,h1,rfl⟩:=zMh h e hi hfe hft
 exact (zQC B i1 hg hT hE (zCZ i2)).weak fun σ H Q q=>zLf ht h1 q
theorem zNu (h:XOk X sc ar cl k) {it:Option CI}{fe:Sc→Expr→Option C}{ft:Sc→Expr→Option CT}{tg iter elt:Expr}{ifs:List Expr}{scope:Scope}{pos pos' spos:Pos}{y0:Str}{go:TG} (hgo:PG X (.Name y0 pos') go) (hsw:swapsWith (.ListComp elt [⟨tg,iter,ifs,0⟩] scope pos) (some (.Name y0 pos')) spos.line X.env=pure true) {c:C} (e:zFB sc it fe ft tg elt ifs scope=some c)
  (hi:∀ ci,it=some ci→PI X tg iter (tOfI X.K ci)∧zGW iter=false) (hfe:∀ X' sc',XOk X' sc' ar cl k→zAF X' (fe sc')) (hft:∀ X' sc',XOk X' sc' ar cl k→zFD X' (ft sc')):PS X (.Assign [.Name y0 pos'] (.ListComp elt [⟨tg,iter,ifs,0⟩] scope pos) spos) (tAsg (tOf X.K c) go):=by
 obtain ⟨t,xs,js,ci,ct,ce,B,i1,i2,hg,hT,hE,ht,h1,rfl⟩:=zMh h e hi hfe hft
 exact (zJC hgo hsw B i1 hg hT hE (zCZ i2)).weak fun D σ H q=>zLf ht h1 q
end
open PySem PySem.Spec PyProof.Rows
section
variable {X:Cx}{scope:Scope}{N:List Str}{cl:List (Str × Addr)}{s0:Shared}{H0:Hp}{C0:Addr}{ex:List Addr}{xe:Value→Shared→Prop}{tg e:Expr}{t:TE}{es:List Expr}
theorem pe_E (h:PE (zAj X scope N cl s0 H0 C0 ex) e t):PE (zAn X scope N cl s0 H0 C0 ex xe) e t:=fun pins s σ H Q I q=>wpAny_mono (h pins s σ H Q (invE' I) q) (fun u s' ⟨v,H',I',r,q'⟩=>⟨v,H',invE I',r,q'⟩) fun _ _ f=>f.elim
theorem pa_E {ta:TA} (h:PA (zAj X scope N cl s0 H0 C0 ex) es ta):PA (zAn X scope N cl s0 H0 C0 ex xe) es ta:=fun pos pins s σ H Q I q=>wpAny_mono (h pos pins s σ H Q (invE' I) q) (fun u s' ⟨v,H',I',r,q'⟩=>⟨v,H',invE I',r,q'⟩) fun _ _ f=>f.elim
theorem pg_E {g:TG} (h:PG (zAj X scope N cl s0 H0 C0 ex) tg g):PG (zAn X scope N cl s0 H0 C0 ex xe) tg g:=fun pins s σ H v u Q I r q=>wpAny_mono (h pins s σ H v u Q (invE' I) r q) (fun _ s' ⟨σ',H',I',q'⟩=>⟨σ',H',invE I',q'⟩) fun _ _ f=>f.elim
end
section
variable {X:Cx}{scope:Scope}{N:List Str}
theorem zNK {elt iter tg:Expr}{pos:Pos}{wi:TI}{g:TG}{te:TE}{k:Nat}{js:List Nat} (B:zHE X scope N k js) (hst:X.stack=X.env::X.outer) (hfr:X.env.frame=some X.env.locals) (hi:PI X tg iter wi)
  (hg:∀ cl s H C ex,PG (zAj X scope N cl s H C ex) tg g)
  (hte:∀ cl s H C ex xe,zB1 (CX1 X.prog X.w) (zAn X scope N cl s H C ex xe) (EX X)→PE (zAn X scope N cl s H C ex xe) elt te)
  (hs:∀ x,foldedSetIterable iter X.env x=pure x:=by intro _; rfl):PE X (.ListComp elt [⟨tg,iter,[],0⟩] scope pos) (zKx wi k js g tYes te):=by
 intro pins s σ H Q I h
 refine wpAny_comprehension_free rfl hs (zAO fun x hx=>I.ok.has x (B.free x hx)) B.kind B.names (thn (hi pins s σ H _ I h) fun v s1 h1=>thn h1 fun itv s2 h2=>?_)
 obtain ⟨it,fp,tn,J,H2,e,I2,T,st2,f2,hW⟩:=h2
 subst e
 refine zMj B I2 T st2 f2 (fun cl s H C ex xe=>pg_E (hg cl s H C ex)) (fun _ _ _ _ _ _=>zKT) (fun cl C hC _=>hte _ _ _ _ _ _ (zK9 hst hfr I2 f2 hC)) hW fun cl C H4 s5 hCle hDC I5 q=>?_
 obtain ⟨m,hn,_⟩:=id I5.loc
 have hC4:H4 C=none:=I5.free
 refine ⟨m,hn,fun h' hs'=>⟨.ref s2.heap.objs.size,H4,?_,rfl,q⟩⟩
 have bl:∀ b o,s2.heap.get? b=some o→b≠C:=fun b o e=>Nat.ne_of_lt (Nat.lt_of_lt_of_le (Heap.lt_size e) hCle)
 refine I2.call' (s':={ s5 with heap:=h' }) I5.os ?_ (fun b u e=>?_) I5.bare (fun b hb=>⟨(f2 b hb).2.2.2.1,(f2 b hb).2.1,(f2 b hb).2.2.2.2.1,(f2 b hb).2.2.2.2.2⟩)
 ·have U:=I5.base
  exact ⟨fun b o e n hb hx=>(hs'.2 b (bl b o e)).trans (U.keep b o e n hb hx),fun b o e n hb hx=>by
    obtain ⟨sl,z⟩:=U.slot b o e n hb hx
    exact ⟨sl,(hs'.2 b (bl b o e)).trans z⟩,U.free,fun b o e hx=>by
    obtain ⟨o',z⟩:=U.there b o e hx
    exact ⟨o',(hs'.2 b (bl b o e)).trans z⟩,U.tups,U.frzs,U.tbls⟩
 ·refine (I5.hok b u e).stay (fun c w' hcc q'=>(hs'.2 c ?_).trans q') (fun _ q'=>q') fun _ _ q'=>q'
  rintro rfl
  rcases hcc with rfl | hcc
  ·rw [hC4] at e; cases e
  ·rw [hC4] at hcc; cases hcc
end
noncomputable def zI1 (w:zBM) (t:Tgt) (c:C) (ρ0:Env1):List D→M (List D)
 | []=>fun S=>if okW w S then .ok [] S else .bad
 | d::ds=>fun S=>if okW w S then (match zHq t d ρ0 with
  | some ρ1=>(match c ρ1 S with
   | .ok y S1=>(match zI1 w t c ρ0 ds S1 with
    | .ok ys S2=>.ok (y::ys) S2
    | .er x S2=>.er x S2
    | .bad=>.bad)
   | .er x S1=>.er x S1
   | .bad=>.bad)
  | none=>.bad) else .bad
noncomputable def zJn (it:CI) (k:Nat) (js:List Nat) (t:Tgt) (c:C):C:=fun ρ S=>match it ρ S with
 | .ok p S0=>if p.1.length<lim then (match zI1 p.2 t c (stE k js ρ) p.1 S0 with
  | .ok ys S'=>.ok (.lst S'.length) (S'++[.lst ys])
  | .er x S'=>.er x S'
  | .bad=>.bad) else .bad
 | _=>.bad
noncomputable def apR (acc:List D):R (List D)→R (List D)
 | .ok ys S=>.ok (acc++ys) S
 | .er x S=>.er x S
 | .bad=>.bad
inductive CompV (K:W.Frag) (items:List D) (w:zBM) (t:Tgt) (c:C) (ρ0:Env1) (μ0:List Addr) (H0:Hp) (A:Addr) (tot:R (List D)) (i m:Nat) (us:List V) (H2:Hp):Prop
 | mk (him:i+m=items.length) (hus:us.length≤i) (μ2:List Addr) (S2:zA2) (acc:List D) (sr:SR K μ2 S2 H2) (st:Step K μ0 μ2 H0 H2) (nA:A∉μ2) (hA:H2 A=some (.lst us)) (ra:RVs K H2 μ2 acc us) (el:apR acc (zI1 w t c ρ0 (items.drop i) S2)=tot)
section
variable {X:Cx}
theorem zNT {σ:St}{H:Hp}{Q:VK}{it:CI}{k:Nat}{js:List Nat}{t:Tgt}{c:C} (ht:tgtK t≤k) (h1:1≤k) (h:tOfX X (zJn it k js t c) σ H Q):zKx (tOfI X.K it) k js (tOfT' X.K t) tYes (tOfX X c) σ H Q:=by
 obtain ⟨μ,ρ,S,sr,re,y⟩:=h
 unfold zJn at y
 cases e0:it ρ S with
 | bad=>rw [e0] at y; exact y.elim
 | er _ _=>rw [e0] at y; exact y.elim
 | ok p S0 =>
 obtain ⟨items,w⟩:=p
 rw [e0] at y
 dsimp only at y
 by_cases hlim:items.length<lim
 ·rw [if_pos hlim] at y
  obtain ⟨tot,htot⟩:∃ tot,zI1 w t c (stE k js ρ) items S0=tot:=⟨_,rfl⟩
  rw [htot] at y
  refine ⟨μ,ρ,S,items,w,S0,sr,re,e0,fun J H0 μ0 sr0 st0 io A hA=>?_⟩
  have reC:=(re.up st0).comp k js
  obtain ⟨srA,stA⟩:=sr0.other hA
  have nA:=sr0.out hA
  refine ⟨CompV X.K items w t c (stE k js ρ) μ0 H0 A tot,
   ⟨items.length,⟨by simp,Nat.zero_le _,μ0,S0,[],srA,stA,nA,zA4,RVs.nil,by rw [List.drop_zero,htot]; cases tot <;> rfl⟩⟩,?_⟩
  rintro i m us H2 ⟨him,hus,μ2,S2,acc,sr2,st2,nA2,hA2,racc,el⟩
  refine And.intro hA2 ?_
  by_cases hi:i<items.length
  ·rw [List.drop_eq_getElem_cons hi] at el
   unfold zI1 at el
   split at el
   ·rename_i hw
    refine .inr ⟨io.go i H2 μ2 S2 sr2 st2 hw hi,zJ4 (by lia),fun x H3 hy=>?_⟩
    obtain ⟨d,hd,sr3,st3,rv⟩:=io.yld i H2 μ2 S2 x H3 sr2 st2 hw hi hy
    have ed:=by rw [List.getElem?_eq_getElem hi] at hd; exact Option.some.inj hd
    rw [ed] at el
    have hA3:=st3.fr A _ nA2 hA2
    have st03:=st2.trans st3 sr3.nd
    split at el
    ·rename_i ρ4 h4
     refine zMM ht (reC.up st03) rv h4 (fun σ4 re4 wk=>⟨wk,?_⟩) h1
     unfold tYes
     dsimp only
     rw [if_pos rfl]
     refine ⟨μ2,ρ4,S2,sr3,re4,?_⟩
     cases e4:c ρ4 S2 with
     | bad=>rw [e4] at el; subst el; exact y.elim
     | er xx S4 =>
      rw [e4] at el
      subst el
      exact YldE.shift y (st0.trans st03 sr3.nd)
     | ok z S4 =>
      rw [e4] at el
      intro v H6 μ6 sr6 st6 rv6
      have hA6:=st6.fr A _ nA2 hA3
      have nA6:=st6.notIn nA2 hA3
      have st26:=st3.trans st6 sr6.nd
      have tku:TF X.K H6 (upd H6 A (.lst (us++[v]))):=zGp hA6
      refine ⟨hA6,m - 1,by lia,⟨by lia,by rw [List.length_append]; show us.length+1≤i+1; lia,μ6,S4,acc++[z],sr6.acc nA6 hA6,(st03.trans st6 sr6.nd).acc hA hA6,nA6,zA4,?_,?_⟩⟩
      ·exact RVs.up tku ⟨[],by simp⟩ _ _ ((RVs.up st26.tk st26.ext _ _ racc).append (.cons rv6 .nil))
      ·rw [← el]
       dsimp only
       cases zI1 w t c (stE k js ρ) (items.drop (i+1)) S4 with
       | bad=>rfl
       | er _ _=>rfl
       | ok ys S5=>show R.ok _ _=R.ok _ _; rw [List.append_assoc]; rfl
    ·subst el; exact y.elim
   ·subst el; exact y.elim
  ·have ei:i=items.length:=by lia
   subst ei
   rw [List.drop_length] at el
   unfold zI1 at el
   split at el
   ·rename_i hw
    subst el
    have y:Yld X.K μ H (.lst S2.length) (S2++[.lst (acc++[])]) Q:=y
    rw [List.append_nil] at y
    refine .inl ⟨io.stop H2 μ2 _ sr2 st2 hw,?_⟩
    have hA0:H A=none:=by
     cases q:H A with
     | none=>rfl
     | some o =>
      by_cases hm:A∈μ
      ·exact absurd (st0.mem hm) nA
      ·rw [st0.fr A o hm q] at hA; cases hA
    have sr3:=sr2.adopt nA2 hA2 racc
    refine y (.ref A) H2 (μ2++[A]) sr3 ((st0.trans st2 sr2.nd).adopt hA0) ?_
    exact ⟨A,rfl,by rw [← sr2.len,List.getElem?_append_right (Nat.le_refl _),Nat.sub_self]; rfl⟩
   ·subst el; exact y.elim
 ·rw [if_neg hlim] at y; exact y.elim
noncomputable def zJl (a b:C):C:=fun ρ S=>match a ρ S with
 | .ok x S1=>(match b ρ S1 with
  | .ok y S2=>.ok (.tup [x,y]) S2
  | .er k S2=>.er k S2
  | .bad=>.bad)
 | _=>.bad
theorem zNl {Y:Cx}{a b:Expr}{ca cb:C}{kx pos} (hK:Y.K=X.K) (ha:PE Y a (tOf X.K ca)) (hb:PE Y b (tOfX X cb)) (sa:zAe a=true) (sb:zAe b=true):PE Y (.Tuple [a,b] kx pos) (tOfX X (zJl ca cb)):=(zPh (zC7 ha (zC7 hb zFo (zA6 sb)) (zA6 sa))).weak (by
 rintro σ H Q ⟨μ,ρ,S,sr,re,y⟩
 unfold zJl at y
 cases e1:ca ρ S with
 | bad=>rw [e1] at y; exact y.elim
 | er _ _=>rw [e1] at y; exact y.elim
 | ok x S1 =>
  rw [e1] at y
  dsimp only at y
  refine ⟨μ,ρ,S,x,S1,sr,re,e1,fun v H1 μ1 sr1 st1 r1=>⟨μ1,ρ,S1,sr1,re.up st1,?_⟩⟩
  cases e2:cb ρ S1 with
  | bad=>rw [e2] at y; exact y
  | er k S2=>rw [e2] at y; exact YldE.shift y st1
  | ok z S2 =>
   rw [e2] at y
   intro u H2 μ2 sr2 st2 r2
   exact ⟨Nat.le_of_lt (zDP (by simp)),fun p hp=>(Yld.shift y (st1.trans st2 sr2.nd)).newT sr2 hp (.cons (RV.up st2.tk st2.ext _ _ r1) (.cons r2 .nil))⟩)
noncomputable def cDX (a:C):C:=fun ρ S=>match a ρ S with
 | .ok x S1=>(match zFw [x] S1 with
  | .ok d S2=>.ok d S2
  | _=>.bad)
 | .bad=>.bad
 | .er c S1=>.er c S1
theorem se_dX {a:Expr}{ca:C}{p pos:Pos} (hc:X.calm=true) (hg:Gl X "dict") (hm:X.mg "dict"=none) (ha:PE X a (tOfX X ca)) (hs:zAe a=true):PE X (.Call (.Name "dict" p) [a] [] pos) (tOfX X (cDX ca)):=(zCT zEu hg hm (by rfl) (zC7 ha zFo (zA6 hs)) (by decide +kernel) (by decide +kernel) (zA6 hs) rfl).weak (by
 rintro σ H Q ⟨μ,ρ,S,sr,re,y⟩
 unfold cDX at y
 refine ⟨μ,ρ,S,sr,re,?_⟩
 revert y
 cases ca ρ S with
 | bad=>exact fun y=>y
 | er c S'=>exact fun y=>y
 | ok x S1 =>
  dsimp only
  intro y v H1 μ1 sr1 st1 r1
  cases h3:zFw [x] S1 with
  | bad=>rw [h3] at y; exact y.elim
  | er c S'=>rw [h3] at y; exact y.elim
  | ok d S3 =>
   rw [h3] at y
   exact zJh hc [x] S1 d S3 H1 μ1 [v] Q h3 sr1 (.cons r1 .nil) (Yld.shift y st1))
variable {sc:Sc}{ar:Str→Option Nat}{cls:Str→List D→M D}{k:Nat}
noncomputable def cDc (ar:Str→Option Nat) (cls:Str→List D→M D) (rz:Sc→Expr→Option (Str × List Expr)) (it:Expr→Expr→Option CI) (fe:Sc→Expr→Option C) (sc:Sc) (e:Expr):Option C:=match e with
 | .Call (.Name d _) [.ListComp (.Tuple [a,b] _ _) [⟨tg,iter,[],0⟩] scope _] [] _ =>
  if d=("dict":Str)∧sc.fn.isSome=true∧sc.names.lookup ("dict":Str)=some .globalImplicit∧ar "dict"=none∧zAe a=true∧zAe b=true then
   (zKs tg).bind fun p=>if compOk sc p.2 scope then (slots sc.N (zAb scope.names)).bind fun js=>(it tg iter).bind fun ci=>(fe (zCs p.2 scope) a).bind fun ca=>(rz (zCs p.2 scope) b).bind fun q=>(zA0? (fe (zCs p.2 scope)) q.2).map fun cs =>
    cDX (zJn ci p.2.length js p.1 (zJl ca (zAt (cls q.1) (zA0 cs))))
   else none
  else none
 | _=>none
theorem s_dc (h:XOk X sc ar cls k) {rz:Sc→Expr→Option (Str × List Expr)}{it:Expr→Expr→Option CI}{fe:Sc→Expr→Option C}{e:Expr}{c:C} (q:cDc ar cls rz it fe sc e=some c)
  (hit:∀ tg iter ci,it tg iter=some ci→PI X tg iter (tOfI X.K ci)∧zGW iter=false) (hfe:∀ X' sc',XOk X' sc' ar cls k→zAF X' (fe sc'))
  (hrz:∀ scope xs,compOk sc xs scope=true→∀ b g args cs,rz (zCs xs scope) b=some (g,args)→zA0? (fe (zCs xs scope)) args=some cs→∀ cl s H C ex xe,zB1 (CX1 X.prog X.w) (zAn X scope (xs++zAb scope.names) cl s H C ex xe) (EX X)→PE (zAn X scope (xs++zAb scope.names) cl s H C ex xe) b (tOfX X (zAt (cls g) (zA0 cs)))):PE X e (tOfX X c)∧∃ fn es kw p,e=.Call fn es kw p:=by
 unfold cDc at q
 split at q
 ·split at q
  ·rename_i d p0 a b _ _ tg iter scope p1 p2 hc
   obtain ⟨rfl,c1,c2,c3,c4,c5⟩:=hc
   obtain ⟨⟨t,xs⟩,e0,q⟩:=Option.bind_eq_some_iff.mp q
   dsimp only at q
   split at q
   ·rename_i hok
    obtain ⟨js,e1,q⟩:=Option.bind_eq_some_iff.mp q
    obtain ⟨ci,e2,q⟩:=Option.bind_eq_some_iff.mp q
    obtain ⟨ca,e3,q⟩:=Option.bind_eq_some_iff.mp q
    obtain ⟨⟨g,args⟩,e4,q⟩:=Option.bind_eq_some_iff.mp q
    obtain ⟨cs,e5,q⟩:=Option.map_eq_some_iff.mp q
    subst q
    obtain ⟨i1,i2⟩:=hit _ _ _ e2
    obtain ⟨f1,f2⟩:=h.frm c1
    have c6:1≤xs.length:=by
     have hc':=hok
     unfold compOk at hc'
     simp only [Bool.and_eq_true,decide_eq_true_eq] at hc'
     exact hc'.1.2
    refine ⟨se_dX h.calm (h.gl _ c2) (h.blt.b _ (by decide) c3) ((zNK (zMm h hok e1) f1 f2 i1 (zMi h hok e0) (fun cl s H C ex xe hp=>zNl (X:=X) rfl (pe_E (hfe _ _ (h.comp hok cl s H C ex) _ _ e3)) (hrz scope xs hok b g args cs e4 e5 cl s H C ex xe hp) c4 c5) (zCZ i2)).weak fun σ H Q z=>zNT (by rw [zKr e0]; exact Nat.le_refl _) c6 z) rfl,_,_,_,_,rfl⟩
   ·cases q
  ·cases q
 ·cases q
end
open PySem PySem.Spec PyProof.Rows
def DkH (w:World) (K:W.Frag) (mg:Str→Option Value):Prop:=(∀ C,DkC K C→Cls K C∧zBW K C "kept")∧(∃ C g,DkOk K mg "Desk" "kept" C g∧DkC K C)∧FmIn w K mg
section
variable {X:Cx}{sc:Sc}{ar:Str→Option Nat}{cl:Str→List D→M D}{k:Nat}{f:Expr→Option C}
theorem form1 {a:Expr}{env:Env}{pos:Pos} (h:zAe a=true):methodCallForm ([a].length+([]:List Keyword).length) (backTo pos (starEach [a] env)) (backToKw pos (keywordEach [] env))=true:=by
 unfold methodCallForm
 rw [zA6 (es:=[]) h]; rfl
noncomputable def cMthd (cl:Str→List D→M D) (f:Expr→Option C) (o:Expr) (m:Str) (es:List Expr) (apos cpos:Pos):Option C:=match o,es with
 | .Name y yp,[a]=>if zAe a&&(apos.endLine == cpos.line) then (mtL.lookup m).bind fun q=>(f (.Name y yp)).bind fun co=>(f a).map fun ca=>cMth (cl q) co (zA0 [ca]) else none
 | _,_=>none
theorem s_mthd (h:XOk X sc ar cl k) (hf:zAF X f) {o:Expr}{m:Str}{es:List Expr}{apos cpos:Pos}{c:C} (e:cMthd cl f o m es apos cpos=some c):PE X (.Call (.Attribute o m apos) es [] cpos) (tOf X.K c):=by
 unfold cMthd at e
 split at e
 ·split at e
  ·rename_i hc
   rw [Bool.and_eq_true] at hc
   obtain ⟨q,e1,e⟩:=Option.bind_eq_some_iff.mp e
   obtain ⟨co,e2,e⟩:=Option.bind_eq_some_iff.mp e
   obtain ⟨ca,e3,e⟩:=Option.map_eq_some_iff.mp e
   subst e
   obtain ⟨M,hn⟩:=h.mts _ _ e1
   exact se_mth M h.room (Nat.le_refl _) hn (hf _ _ e2) (zCu (hf _ _ e3) zFj (zA6 hc.1)) (zA6 hc.1) rfl (form1 hc.1) hc.2
  ·cases e
 ·cases e
noncomputable def cMthY (cl:Str→List D→M D) (f:Expr→Option C) (e:Expr):Option C:=match e with
 | .Call (.Attribute (.Name y yp) m apos) [a] [] cpos=>if zAe a&&(apos.endLine == cpos.line) then (mtL.lookup m).bind fun q=>(f (.Name y yp)).bind fun co=>(f a).map fun ca=>zK4 (cl q) co (zA0 [ca]) else none
 | _=>none
theorem s_mthY (h:XOk X sc ar cl k) (hf:zAF X f) {e:Expr}{c:C} (q:cMthY cl f e=some c):PE X e (tOfX X c)∧∃ fn es kw p,e=.Call fn es kw p:=by
 unfold cMthY at q
 split at q
 ·split at q
  ·rename_i hc
   rw [Bool.and_eq_true] at hc
   obtain ⟨g,e1,q⟩:=Option.bind_eq_some_iff.mp q
   obtain ⟨co,e2,q⟩:=Option.bind_eq_some_iff.mp q
   obtain ⟨ca,e3,q⟩:=Option.map_eq_some_iff.mp q
   subst q
   obtain ⟨M,hn⟩:=h.mts _ _ e1
   exact ⟨zQ1 M h.room (Nat.le_refl _) hn zCd (hf _ _ e2) (zCu (hf _ _ e3) zFj (zA6 hc.1)) (zA6 hc.1) rfl (form1 hc.1) hc.2,_,_,_,_,rfl⟩
  ·cases q
 ·cases q
noncomputable def zJm (φ:List D→M D) (o a:C):C:=fun ρ S=>match o ρ S with
 | .ok (.ob n) S1=>(match a ρ S1 with
  | .ok x S2=>φ [.ob n,x] S2
  | .er c S2=>.er c S2
  | .bad=>.bad)
 | _=>.bad
theorem zNm {φ:List D→M D}{n k':Nat}{y m:Str}{yp apos pos:Pos}{a:Expr}{co ca:C} (M:zGk X.prog X.w X.K X.mg X.base m k (zBn X.K X.mg φ n)) (hr:Room k' X.A) (hk:k≤k') (hn:∀ ds S,φ ds S≠.bad→ds.length=n)
  (ho:PE X (.Name y yp) (tOf X.K co)) (ha:PE X a (tOfX X ca)) (h1:zAe a=true) (hl:(apos.endLine == pos.line)=true) :
  PE X (.Call (.Attribute (.Name y yp) m apos) [a] [] pos) (tOfX X (zJm φ co ca)):=by
 obtain ⟨C,f,fd,ps,dc,c,hm,F,hb,nk⟩:=M.ex
 refine (zFM ho c hm F (hr.mono hk) hb .nil zCd (zC7 ha zFo (zA6 h1)) (zA6 h1) rfl (zLk (form1 h1) hl)).weak fun σ H Q ⟨μ,ρ,S,sr,re,q⟩=>?_
 unfold zJm at q
 cases e1:co ρ S with
 | bad=>rw [e1] at q; exact q.elim
 | er c S'=>rw [e1] at q; exact q.elim
 | ok x S1 =>
  rw [e1] at q
  refine ⟨μ,ρ,S,x,S1,sr,re,e1,fun v H1 μ1 sr1 st1 r1=>?_⟩
  cases x with
  | ob n =>
   dsimp only at q
   obtain ⟨p,dx,fs,rfl,g1,g2⟩:=zLK r1 dc nk
   refine ⟨p,dx,fs,rfl,g1,g2,μ1,ρ,S1,sr1,re.up st1,?_⟩
   revert q
   cases e2:ca ρ S1 with
   | bad=>exact fun q=>q
   | er c S'=>exact fun q=>YldE.shift q st1
   | ok d S2 =>
    dsimp only
    intro q v2 H2 μ2 sr2 st2 r2
    have r3:RVs X.K H2 μ2 [.ob n,d] [.ref p,v2]:=.cons (RV.up st2.tk st2.ext _ _ r1) (.cons r2 RVs.nil)
    have st:=st1.trans st2 sr2.nd
    refine ⟨by rw [← hn [.ob n,d] S2 (fun z=>by rw [z] at q; exact q)]; rfl,μ2,_,S2,sr2,r3,?_⟩
    revert q
    cases φ [.ob n,d] S2 with
    | ok d S'=>exact fun q=>Yld.shift q st
    | bad=>exact fun q=>q
    | er c S'=>exact fun q=>YldE.shift q st
  | _=>exact q.elim
theorem s_desk (h:XOk X sc ar cl k) (hf:sc.fn=some lamD) (hg:sc.names.lookup ("Desk":Str)=some .globalImplicit) {p pos:Pos}:PE X (.Call (.Name "Desk" p) [] [] pos) (tOf X.K zK5):=by
 obtain ⟨C,g,dk,dc⟩:=h.dkn hf
 exact zQ5 (zQB dk ((h.roomT hf).mono (by lia)) (h.gl _ hg) pass0 (by decide)) dc
end
open PySem PySem.Spec PyProof.Rows
noncomputable def zE7 (scope:Scope):Sc:=⟨zAb scope.names,scope.names,none⟩
noncomputable def zLi (p:Arguments):Bool:=p.posonlyargs.isEmpty&&p.args.isEmpty&&p.vararg.isNone&&p.kwonlyargs.isEmpty&&p.kw_defaults.isEmpty&&p.kwarg.isNone&&p.defaults.isEmpty
theorem zGK {p:Arguments} (h:zLi p=true):p={ posonlyargs:=[],args:=[],vararg:=none,kwonlyargs:=[],kw_defaults:=[],kwarg:=none,defaults:=[] }:=by
 obtain ⟨a,b,c,d,e,f,g⟩:=p
 unfold zLi at h
 simp only [Bool.and_eq_true,List.isEmpty_iff,Option.isNone_iff_eq_none] at h
 obtain ⟨⟨⟨⟨⟨⟨rfl,rfl⟩,rfl⟩,rfl⟩,rfl⟩,rfl⟩,rfl⟩:=h
 rfl
noncomputable def zOe (sc:Sc) (params:Arguments) (scope:Scope):Bool :=
 zLi params&&decide (scope.kind=.function)&&!scope.isCoroutine&&!scope.isGenerator&&scope.names.all (fun y=>y.2 != .cell)&&decide (zAb scope.names).Nodup
 && (zAb scope.names).all (fun x=>sc.names.lookup x == some .cell&&scope.names.lookup x == some .free)
noncomputable def zOf (sc:Sc) (ar:Str→Option Nat) (t:Str):List Expr→Option (List (Str × Str) × List Nat × Scope × Str × List Expr)
 | [.Lambda params (.Call (.Name g _) args [] _) scope _] =>
  if sc.fn=some lamD∧zOe sc params scope=true∧sc.names.lookup t=some .globalImplicit∧(t == ("__debug__":Str))=false∧scope.names.lookup g=some .globalImplicit∧ar g=some args.length∧args≠[]∧(g == ("__debug__":Str))=false then
   (tkL.lookup t).bind fun ws=>(slots sc.N (zAb scope.names)).map fun js=>(ws,js,scope,g,args)
  else none
 | _=>none
section
variable {X:Cx}{sc:Sc}{ar:Str→Option Nat}{cl:Str→List D→M D}{k:Nat}
theorem zGX {ns:List (Str × NameKind)}{x:Str} (h:(x,NameKind.free)∈ns):x∈zAb ns:=List.mem_map.mpr ⟨(x,.free),List.mem_filter.mpr ⟨h,by simp⟩,rfl⟩
theorem s_take (h:XOk X sc ar cl k) {t g:Str}{es args:List Expr}{ws:List (Str × Str)}{js:List Nat}{scope:Scope}{f:Expr→Option C}{cs:List C}{p pos:Pos} (e:zOf sc ar t es=some (ws,js,scope,g,args)) (hf:∀ X',XOk X' (zE7 scope) ar cl k→zAF X' f) (e1:zA0? f args=some cs) :
  PE X (.Call (.Name t p) es [] pos) (tOf X.K (zMG lamD ws js (zAt (cl g) (zA0 cs)))):=by
 unfold zOf at e
 split at e
 ·rename_i params g' p1 args' p2 scope' p3
  split at e
  ·rename_i hc
   obtain ⟨c1,c2,c3,c4,c5,c6,c7,c8⟩:=hc
   obtain ⟨ws',w1,e⟩:=Option.bind_eq_some_iff.mp e
   obtain ⟨js',w2,e⟩:=Option.map_eq_some_iff.mp e
   cases e
   unfold zOe at c2
   simp only [Bool.and_eq_true,decide_eq_true_eq,Bool.not_eq_true',List.all_eq_true,beq_iff_eq,bne_iff_ne] at c2
   obtain ⟨⟨⟨⟨⟨⟨d1,d2⟩,d3⟩,d4⟩,d5⟩,d6⟩,d7⟩:=c2
   obtain ⟨s1,s2⟩:=zCK w2
   have rT:=h.roomT c1
   refine zQ0 (h.tk c1 _ _ w1) (h.lam c1) (h.gl _ c3) c4 (rT.mono (by omega)) ⟨d2,d3,d4,d5,zGK d1,fun x hx=>h.cel x (d7 x (zGX hx)).1,s1,fun i j hj=>?_⟩ fun fa cd clo e1' outer s H E=>?_
   ·obtain ⟨x,n1,n2⟩:=s2 i j hj
    exact ⟨x,n1,by rw [h.N]; exact n2,(d7 x (List.mem_of_getElem? n1)).2⟩
   ·have hX:XOk (zG3 X.prog X.w X.K X.mg X.base (zAb scope.names) (zCx lamD) scope fa cd clo (X.A.deeper e1') outer s H E) (zE7 scope) ar cl k:={
     calm:=rfl
     N:=rfl
     nd:=d6
     gl:=fun x hx=>hx
     loc:=fun x hx=>hx
     cel:=fun x hx=>hx
     fre:=fun x hx=>.inr hx
     fnn:=fun z=>by cases z
     room:=(rT.deeper e1').deeper _
     roomT:=fun z=>by cases z
     lam:=fun z=>by cases z
     tk:=fun z=>by cases z
     rf:=fun z=>by cases z
     xk:=h.xk
     xm:=h.xm
     xv:=h.xv
     own:=PassesOwn.leaving
     exc:=h.exc
     blt:=h.blt
     dkc:=h.dkc
     fm:=h.fm
     dkn:=fun z=>by cases z
     mts:=h.mts
     frm:=fun z=>by cases z
     fns:=h.fns }
    obtain ⟨h1,h2⟩:=zBh (hf _ hX) e1
    obtain ⟨⟨ps,Ca⟩,hlen⟩:=hX.fns g _ c6
    cases args with
    | nil=>exact absurd rfl c7
    | cons a es=>exact (zCS (p:=p1) (pos:=p2) Ca hX.room (hX.gl g c5) zCd h1 (Nat.le_refl _) c8 (zA6 (h2 a (by simp))) (zAR fun b hb=>h2 b (by simp [hb]))).weak (zCU hlen)
  ·cases e
 ·cases e
noncomputable def rfC (sc:Sc) (t:Str) (params:Arguments) (scope:Scope):Bool:=decide (sc.fn=some lamD)&&zOe sc params scope&&decide (sc.names.lookup t=some .globalImplicit)&&!(t == ("__debug__":Str))&&decide (t∈rfN)
theorem zGx (h:XOk X sc ar cl k) {t:Str}{params:Arguments}{body:Expr}{scope:Scope}{js:List Nat}{cb:C}{p lpos pos:Pos} (hc:rfC sc t params scope=true) (w2:slots sc.N (zAb scope.names)=some js) (hb:∀ X',XOk X' (zE7 scope) ar cl k→PE X' body (tOfX X' cb)) :
  PE X (.Call (.Name t p) [.Lambda params body scope lpos] [] pos) (tOf X.K (zBd lamD 4 rfB js cb)):=by
 unfold rfC at hc
 simp only [Bool.and_eq_true,decide_eq_true_eq,Bool.not_eq_true'] at hc
 obtain ⟨⟨⟨⟨c1,c2⟩,c3⟩,c4⟩,c9⟩:=hc
 unfold zOe at c2
 simp only [Bool.and_eq_true,decide_eq_true_eq,Bool.not_eq_true',List.all_eq_true,beq_iff_eq,bne_iff_ne] at c2
 obtain ⟨⟨⟨⟨⟨⟨d1,d2⟩,d3⟩,d4⟩,d5⟩,d6⟩,d7⟩:=c2
 obtain ⟨s1,s2⟩:=zCK w2
 have rT:=h.roomT c1
 refine zKJ (h.rf c1 _ c9) (fun c hc C hm=>?_) (h.lam c1) (h.gl _ c3) c4 (rT.mono (by omega)) ⟨d2,d3,d4,d5,zGK d1,fun x hx=>h.cel x (d7 x (zGX hx)).1,s1,fun i j hj=>?_⟩ fun fa cd clo e1' outer s H E=>hb _ {
   calm:=rfl
   N:=rfl
   nd:=d6
   gl:=fun x hx=>hx
   loc:=fun x hx=>hx
   cel:=fun x hx=>hx
   fre:=fun x hx=>.inr hx
   fnn:=fun z=>by cases z
   room:=(rT.deeper e1').deeper _
   roomT:=fun z=>by cases z
   lam:=fun z=>by cases z
   tk:=fun z=>by cases z
   rf:=fun z=>by cases z
   xk:=h.xk
   xm:=h.xm
   xv:=h.xv
   own:=PassesOwn.leaving
   exc:=h.exc
   blt:=h.blt
   dkc:=h.dkc
   fm:=h.fm
   dkn:=fun z=>by cases z
   mts:=h.mts
   frm:=fun z=>by cases z
   fns:=h.fns }
 ·obtain ⟨C',q1,q2⟩:=h.xm c hc
  rw [hm] at q1; cases q1; exact q2
 ·obtain ⟨x,n1,n2⟩:=s2 i j hj
  exact ⟨x,n1,by rw [h.N]; exact n2,(d7 x (List.mem_of_getElem? n1)).2⟩
noncomputable def rfOf (sc:Sc) (ar:Str→Option Nat) (t:Str):List Expr→Option (List Nat × Scope × Str × List Expr)
 | [.Lambda params (.Call (.Name g _) args [] _) scope _] =>
  if rfC sc t params scope=true∧scope.names.lookup g=some .globalImplicit∧ar g=some args.length∧args≠[]∧(g == ("__debug__":Str))=false then
   (slots sc.N (zAb scope.names)).map fun js=>(js,scope,g,args)
  else none
 | _=>none
theorem zNq (h:XOk X sc ar cl k) {t g:Str}{es args:List Expr}{js:List Nat}{scope:Scope}{f:Expr→Option C}{cs:List C}{p pos:Pos} (e:rfOf sc ar t es=some (js,scope,g,args)) (hf:∀ X',XOk X' (zE7 scope) ar cl k→zAF X' f) (e1:zA0? f args=some cs) :
  PE X (.Call (.Name t p) es [] pos) (tOf X.K (zBd lamD 4 rfB js (zAt (cl g) (zA0 cs)))):=by
 unfold rfOf at e
 split at e
 ·rename_i params g' p1 args' p2 scope' p3
  split at e
  ·rename_i hc
   obtain ⟨c1,c5,c6,c7,c8⟩:=hc
   obtain ⟨js',w2,e⟩:=Option.map_eq_some_iff.mp e
   cases e
   refine zGx h c1 w2 fun X' hX=>?_
   obtain ⟨h1,h2⟩:=zBh (hf _ hX) e1
   obtain ⟨⟨ps,Ca⟩,hlen⟩:=hX.fns g _ c6
   cases args with
   | nil=>exact absurd rfl c7
   | cons a es=>exact (zCS Ca hX.room (hX.gl g c5) zCd h1 (Nat.le_refl _) c8 (zA6 (h2 a (by simp))) (zAR fun b hb=>h2 b (by simp [hb]))).weak (zCU hlen)
  ·cases e
 ·cases e
noncomputable def zOn (sc:Sc) (ar:Str→Option Nat) (x:Str):List Expr→Option (Expr × Str)
 | [a,.Name g _]=>if x = "isinstance"∧sc.names.lookup x=some .globalImplicit∧ar x=none∧sc.names.lookup g=some .globalImplicit∧(g = "ValueError"∨g∈xoL)∧zAe a=true then some (a,g) else none
 | _=>none
theorem s_isx (h:XOk X sc ar cl k) {x g:Str}{es:List Expr}{a:Expr}{f:Expr→Option C} (hf:zAF X f) {c:C}{p pos:Pos} (e:zOn sc ar x es=some (a,g)) (e1:f a=some c):PE X (.Call (.Name x p) es [] pos) (tOf X.K (cUn (oIsX g) c)):=by
 unfold zOn at e
 split at e
 ·rename_i a' g' p2
  split at e
  ·rename_i hc
   obtain ⟨rfl,c2,c3,c4,c5,c6⟩:=hc
   cases e
   refine se_isx (hf _ _ e1) (h.gl _ c2) (h.blt.b _ (by decide +kernel) c3) h.xk ?_ (zA6 c6)
   rcases c5 with rfl | c5
   ·exact .inl ⟨rfl,h.gl _ c4,h.xv⟩
   ·refine .inr ⟨c5,h.gl _ c4,h.xm _ c5,?_⟩
    simp only [xoL,List.mem_cons,List.not_mem_nil,or_false] at c5
    rcases c5 with rfl | rfl | rfl | rfl | rfl | rfl | rfl <;> decide +kernel
  ·cases e
 ·cases e
end
noncomputable def rfMo (sc:Sc) (t:Str):List Expr→Option (List Nat × Scope × Expr)
 | [.Lambda params body scope _]=>if rfC sc t params scope=true then (slots sc.N (zAb scope.names)).map fun js=>(js,scope,body) else none
 | _=>none
noncomputable def dskOf (sc:Sc) (x:Str) (es:List Expr):Bool:=x == "Desk"&&es.isEmpty&&sc.fn == some lamD&&sc.names.lookup ("Desk":Str) == some .globalImplicit
noncomputable def cCN (ar:Str→Option Nat) (cl:Str→List D→M D) (f:Expr→Option C) (g:Scope→Expr→Option C) (sc:Sc) (x:Str) (es:List Expr):Option C:=match rfMo sc x es with
 | some (js,scope,body)=>(cMthY cl (g scope) body).map fun cb=>zBd lamD 4 rfB js cb
 | none=>if dskOf sc x es then some zK5 else zMJ sc ar cl f x es
noncomputable def cFm (sc:Sc) (f:Expr→Option C) (o:Expr) (m:Str) (es:List Expr) (apos cpos:Pos):Option C:=match o,es with
 | .Name y _,[a]=>if y = "FORMS"∧m = "get"∧sc.names.lookup ("FORMS":Str)=some .globalImplicit∧zAe a=true∧(apos.endLine == cpos.line)=true then (f a).map fun ca=>cApp zJ0 (zA0 [ca]) else none
 | _,_=>none
noncomputable def cMD (sc:Sc) (cl:Str→List D→M D) (f:Expr→Option C) (o:Expr) (m:Str) (es:List Expr) (apos cpos:Pos):Option C:=match cFm sc f o m es apos cpos with
 | some c=>some c
 | none=>match cMthd cl f o m es apos cpos with
  | some c=>some c
  | none=>zIp f o m es apos cpos
section
variable {X:Cx}{sc:Sc}{ar:Str→Option Nat}{cl:Str→List D→M D}{k:Nat}{f:Expr→Option C}
theorem s_cN (h:XOk X sc ar cl k) (hf:zAF X f) {g:Scope→Expr→Option C} (hg:∀ scope X',XOk X' (zE7 scope) ar cl k→zAF X' (g scope)) {x:Str}{es:List Expr}{c:C}{p pos:Pos} (e:cCN ar cl f g sc x es=some c):PE X (.Call (.Name x p) es [] pos) (tOf X.K c):=by
 unfold cCN at e
 split at e
 ·rename_i js scope body hz
  obtain ⟨cb,e1,e⟩:=Option.map_eq_some_iff.mp e
  subst e
  unfold rfMo at hz
  split at hz
  ·split at hz
   ·rename_i hc
    obtain ⟨js',w2,hz⟩:=Option.map_eq_some_iff.mp hz
    cases hz
    exact zGx h hc w2 fun X' hX=>(s_mthY hX (hg _ X' hX) e1).1
   ·cases hz
  ·cases hz
 ·split at e
  ·rename_i hd
   cases e
   unfold dskOf at hd
   simp only [Bool.and_eq_true,beq_iff_eq,List.isEmpty_iff] at hd
   obtain ⟨⟨⟨rfl,rfl⟩,h1⟩,h2⟩:=hd
   exact s_desk h h1 h2
  ·exact zQb h hf e
theorem s_mD (h:XOk X sc ar cl k) (hf:zAF X f) {o:Expr}{m:Str}{es:List Expr}{apos cpos:Pos}{c:C} (e:cMD sc cl f o m es apos cpos=some c):PE X (.Call (.Attribute o m apos) es [] cpos) (tOf X.K c):=by
 unfold cMD at e
 split at e
 ·rename_i hz
  cases e
  unfold cFm at hz
  split at hz
  ·split at hz
   ·rename_i hc
    obtain ⟨rfl,rfl,c3,c4,c5⟩:=hc
    obtain ⟨ca,e1,hz⟩:=Option.map_eq_some_iff.mp hz
    subst hz
    have s1:=zA6 (es:=[]) (env:=X.env) c4
    exact zNo h.fm (h.gl _ c3) (hf _ _ e1) s1 (by rw [s1]; rfl) c5
   ·cases hz
  ·cases hz
 ·split at e
  ·rename_i hz; cases e; exact s_mthd h hf hz
  ·exact zNs h.room hf e
end
section
variable (ar:Str→Option Nat) (cl:Str→List D→M D)
mutual
noncomputable def cE:Nat→Sc→Expr→Option C
 | 0,_,_=>none
 | n+1,sc,e=>match e with
  | .Constant v _ _=>zPw v
  | .Name x _=>cName sc ar x
  | .BinOp a op b _=>(opBin op).bind fun o=>(cE n sc a).bind fun ca=>(cE n sc b).map fun cb=>cBin o ca cb
  | .UnaryOp op a _=>match op with
   | .USub=>(cE n sc a).map fun ca=>cUn oNeg ca
   | .Not=>(cE n sc a).map fun ca=>zOT ca
   | _=>none
  | .BoolOp op vs _=>zMK op (cE n sc) vs
  | .IfExp t a b _=>(cT n sc t).bind fun ct=>(cE n sc a).bind fun ca=>(cE n sc b).map fun cb=>cIf ct ca cb
  | .Compare a ops bs _=>zD3 (cE n sc) a ops bs
  | .Tuple es _ _=>(zA0? (cE n sc) es).bind fun cs=>if cs.length≤1000 then some (cTup (zA0 cs)) else none
  | .List es _=>(zA0? (cE n sc) es).bind fun cs=>if cs.length≤1000 then some (cLst (zA0 cs)) else none
  | .Subscript a b _=>cSub (cE n sc) a b
  | .FormattedValue a v sp _=>if v=-1∧sp=none then (cE n sc a).map cFmt else none
  | .JoinedStr es _=>zIq (cE n sc) es
  | .Dict ks vs _=>cDict (cE n sc) ks vs
  | .Attribute a fl _=>if fl = "kept"∧zCR a=true then (cE n sc a).map fun ca=>cUn zGI ca else none
  | .Call fn es kw cpos=>match kw with
   | []=>match fn with
    | .Name x _=>match zOf sc ar x es with
     | some (ws,js,scope,g,args)=>(zA0? (cE n (zE7 scope)) args).map fun cs=>zMG lamD ws js (zAt (cl g) (zA0 cs))
     | none=>match rfOf sc ar x es with
      | some (js,scope,g,args)=>(zA0? (cE n (zE7 scope)) args).map fun cs=>zBd lamD 4 rfB js (zAt (cl g) (zA0 cs))
      | none=>match zOn sc ar x es with
       | some (a,g)=>(cE n sc a).map fun ca=>cUn (oIsX g) ca
       | none=>cCN ar cl (cE n sc) (fun s=>cE n (zE7 s)) sc x es
    | .Attribute o m apos=>cMD sc cl (cE n sc) o m es apos cpos
    | _=>none
   | _::_=>none
  | .ListComp elt gens scope _=>match gens with
   | [⟨tg,iter,ifs,ia⟩]=>if ia=0 then zFB sc (zIr sc ar (cE n sc) tg iter) (cE n) (cT n) tg elt ifs scope else none
   | _=>none
  | _=>none
noncomputable def cT:Nat→Sc→Expr→Option CT
 | 0,_,_=>none
 | n+1,sc,e=>match e with
  | .UnaryOp op a _=>match op with
   | .Not=>(cT n sc a).map fun ca=>zB3 ca
   | _=>(cE n sc e).map cTru
  | .BoolOp op vs _=>zML op (cT n sc) vs
  | .IfExp _ _ _ _=>none
  | .Compare a ops bs _=>zFE (cE n sc) a ops bs
  | _=>(cE n sc e).map cTru
end
end
section
variable {X:Cx}{sc:Sc}{ar:Str→Option Nat}{cl:Str→List D→M D}{k:Nat}
theorem zGA:∀ n:Nat,(∀ X sc,XOk X sc ar cl k→zAF X (cE ar cl n sc))∧(∀ X sc,XOk X sc ar cl k→zFD X (cT ar cl n sc))
 | 0=>⟨fun X sc h e c q=>(by cases q),fun X sc h e c q=>(by cases q)⟩
 | n+1=>by
  obtain ⟨ihE,ihT⟩:=zGA n
  refine ⟨fun X sc h e c q=>?_,fun X sc h e c q=>?_⟩
  ·have hf:=ihE X sc h
   have ht:=ihT X sc h
   cases e with
   | Constant v j pos=>exact zQ9 q
   | Name x pos=>exact s_name h q
   | BinOp a op b pos =>
    obtain ⟨o,e0,q1⟩:=Option.bind_eq_some_iff.mp q
    obtain ⟨ca,e1,q2⟩:=Option.bind_eq_some_iff.mp q1
    obtain ⟨cb,e2,q3⟩:=Option.map_eq_some_iff.mp q2
    subst q3
    exact se_bin (s_op e0) (hf _ _ e1) (hf _ _ e2)
   | UnaryOp op a pos =>
    cases op with
    | USub =>
     obtain ⟨ca,e1,q2⟩:=Option.map_eq_some_iff.mp q
     subst q2
     exact se_un us_neg (hf _ _ e1)
    | Not =>
     obtain ⟨ca,e1,q2⟩:=Option.map_eq_some_iff.mp q
     subst q2
     exact se_not (hf _ _ e1)
    | _=>cases q
   | BoolOp op vs pos=>exact zHL hf q
   | IfExp t a b pos =>
    obtain ⟨ct,e0,q1⟩:=Option.bind_eq_some_iff.mp q
    obtain ⟨ca,e1,q2⟩:=Option.bind_eq_some_iff.mp q1
    obtain ⟨cb,e2,q3⟩:=Option.map_eq_some_iff.mp q2
    subst q3
    exact zNn (ht _ _ e0) (hf _ _ e1) (hf _ _ e2)
   | Compare a ops bs pos=>exact zKN h.room hf q
   | Tuple es j pos =>
    obtain ⟨cs,e1,q1⟩:=Option.bind_eq_some_iff.mp q
    split at q1
    ·rename_i hl; cases q1; exact se_tup (zBh hf e1).1 hl
    ·cases q1
   | List es pos =>
    obtain ⟨cs,e1,q1⟩:=Option.bind_eq_some_iff.mp q
    split at q1
    ·rename_i hl; cases q1; exact se_lst (zBh hf e1).1 hl
    ·cases q1
   | Subscript a b pos=>exact s_sub h.room hf q
   | FormattedValue a v sp pos =>
    change (if v=-1∧sp=none then (cE ar cl n sc a).map cFmt else none)=some c at q
    split at q
    ·rename_i hc
     obtain ⟨rfl,rfl⟩:=hc
     obtain ⟨ca,e1,q2⟩:=Option.map_eq_some_iff.mp q
     subst q2
     exact se_fmt (hf _ _ e1)
    ·cases q
   | JoinedStr es pos=>exact zNt hf q
   | Dict ks vs pos=>exact s_dict hf q
   | Attribute a fl pos =>
    change (if fl = "kept"∧zCR a=true then (cE ar cl n sc a).map fun ca=>cUn zGI ca else none)=some c at q
    split at q
    ·rename_i hc
     obtain ⟨rfl,hr⟩:=hc
     obtain ⟨ca,e1,q2⟩:=Option.map_eq_some_iff.mp q
     subst q2
     exact zQ2 (hf _ _ e1) (zMT hr) h.dkc
    ·cases q
   | Call fn es kw cpos =>
    cases kw with
    | cons _ _=>cases q
    | nil =>
     cases fn with
     | Name x p =>
      change (match zOf sc ar x es with | some (ws,js,scope,g,args)=>(zA0? (cE ar cl n (zE7 scope)) args).map fun cs=>zMG lamD ws js (zAt (cl g) (zA0 cs)) | none=>match rfOf sc ar x es with | some (js,scope,g,args)=>(zA0? (cE ar cl n (zE7 scope)) args).map fun cs=>zBd lamD 4 rfB js (zAt (cl g) (zA0 cs)) | none=>match zOn sc ar x es with | some (a,g)=>(cE ar cl n sc a).map fun ca=>cUn (oIsX g) ca | none=>cCN ar cl (cE ar cl n sc) (fun s=>cE ar cl n (zE7 s)) sc x es)=some c at q
      split at q
      ·rename_i ws js scope g args hl
       obtain ⟨cs,e1,q1⟩:=Option.map_eq_some_iff.mp q
       subst q1
       exact s_take h hl (fun X' h'=>ihE X' _ h') e1
      ·split at q
       ·rename_i js scope g args hl
        obtain ⟨cs,e1,q1⟩:=Option.map_eq_some_iff.mp q
        subst q1
        exact zNq h hl (fun X' h'=>ihE X' _ h') e1
       ·split at q
        ·rename_i a g hl
         obtain ⟨ca,e1,q1⟩:=Option.map_eq_some_iff.mp q
         subst q1
         exact s_isx h hf hl e1
        ·exact s_cN h hf (fun s X' h'=>ihE X' _ h') q
     | Attribute o m apos=>exact s_mD h hf q
     | _=>cases q
   | ListComp elt gens scope pos =>
    cases gens with
    | nil=>cases q
    | cons g gs =>
     obtain ⟨tg,iter,ifs,ia⟩:=g
     cases gs with
     | cons _ _=>cases q
     | nil =>
      change (if ia=0 then zFB sc (zIr sc ar (cE ar cl n sc) tg iter) (cE ar cl n) (cT ar cl n) tg elt ifs scope else none)=some c at q
      split at q
      ·rename_i hz
       subst hz
       exact zQa h q (fun ci e=>zIR h hf e) (fun X' sc' h'=>ihE X' sc' h') (fun X' sc' h'=>ihT X' sc' h')
      ·cases q
   | _=>cases q
  ·have hf:=ihE X sc h
   have ht:=ihT X sc h
   have dflt:∀ {c:CT},(cE ar cl n sc e).map cTru=some c→(∀ whole,isTrue e X.env whole=(do let v ← whole; standAt e.pos; holding [v] (truthy v)))→PT X e (tOfT X.K c):=fun {c} q he=>by
    obtain ⟨ca,e1,q2⟩:=Option.map_eq_some_iff.mp q
    subst q2
    exact st_tru (hf _ _ e1) he
   cases e with
   | UnaryOp op a pos =>
    cases op with
    | Not =>
     obtain ⟨ca,e1,q2⟩:=Option.map_eq_some_iff.mp q
     subst q2
     exact st_not (ht _ _ e1)
    | USub=>exact dflt q fun _=>rfl
    | UAdd=>exact dflt q fun _=>rfl
    | Invert=>exact dflt q fun _=>rfl
   | BoolOp op vs pos=>exact (zHM ht q).pt
   | IfExp t a b pos=>cases q
   | Compare a ops bs pos=>exact zJA h.room hf q
   | _=>exact dflt q fun _=>rfl
section
variable (ar:Str→Option Nat) (cl:Str→List D→M D)
noncomputable def cTg (sc:Sc) (x:Str):Option G:=(zDs sc.N x 0).bind fun i=>if sc.names.lookup x=some .local∨(sc.fn.isSome=true∧sc.names.lookup x=some .cell) then some (gN i) else none
mutual
noncomputable def cG:Nat→Sc→Expr→Option G
 | 0,_,_=>none
 | n+1,sc,e=>match e with
  | .Name x _=>cTg sc x
  | .Subscript a b _=>match b with
   | _=>if zEa b then none else (cE ar cl n sc a).bind fun ca=>(cE ar cl n sc b).map fun cb=>gS ca cb
  | .Tuple es _ _=>(cGs n sc es).map fun gs=>gT gs
  | _=>none
noncomputable def cGs:Nat→Sc→List Expr→Option (List G)
 | 0,_,_=>none
 | n+1,sc,es=>match es with
  | []=>some []
  | e::r=>if zAe e then (cG n sc e).bind fun g=>(cGs n sc r).map fun gs=>g::gs else none
end
end
theorem XOk.nd' (h:XOk X sc ar cl k):X.N.Nodup:=by rw [h.N]; exact h.nd
theorem s_tg (h:XOk X sc ar cl k) {x:Str}{g:G} (e:cTg sc x=some g):∃ i,g=gN i∧X.N[i]?=some x∧Loc X.env.scope x∧(X.fn x=true∨X.env.scope.names.lookup x=some .local):=by
 obtain ⟨i,e1,e2⟩:=Option.bind_eq_some_iff.mp e
 split at e2
 ·rename_i hc
  cases e2
  refine ⟨i,rfl,by rw [h.N]; exact (zCj e1).2,?_⟩
  rcases hc with q | ⟨q1,q2⟩
  ·exact ⟨.inl (h.loc x q),.inr (h.loc x q)⟩
  ·exact ⟨.inr (h.cel x q2),.inl (h.fnn q1 x)⟩
 ·cases e2
theorem zKf {a b:Expr}{pos:Pos}{env:Env} (h:zEa b=false):∀ v,assign (.Subscript a b pos) env v=(do
   let ov ← holding [v] (eval a env)
   let iv ← holding [v,ov] (eval b env)
   standAt pos
   holding [v,ov,iv] (setItem ov iv v)
   release [v,ov,iv] []):=by
 cases b <;> first | (intro v; rfl) | cases h
theorem zAP {e:Expr}{es:List Expr}{env:Env} (h:zAe e=true):assignEach (e::es) env=(false,assign e env)::assignEach es env:=by
 cases e <;> first | rfl | cases h
theorem s_G:∀ n:Nat,(∀ X sc,XOk X sc ar cl k→∀ e g,cG ar cl n sc e=some g→PG X e (tOfG X.K g))∧(∀ X sc,XOk X sc ar cl k→∀ es gs,cGs ar cl n sc es=some gs→PGs X es (zKw X.K gs)∧(assignEach es X.env).length=gs.length∧(assignEach es X.env).findIdx? (·.1)=none)
 | 0=>⟨fun X sc h e c q=>(by cases q),fun X sc h e c q=>(by cases q)⟩
 | n+1=>by
  obtain ⟨ih,ihs⟩:=s_G n
  refine ⟨fun X sc h e g q=>?_,fun X sc h es gs q=>?_⟩
  ·cases e with
   | Name x pos =>
    obtain ⟨i,rfl,h1,h2,h3⟩:=s_tg h q
    exact zPY (zC6 h.nd' h1 h2 h3)
   | Subscript a b pos =>
    change (if zEa b then none else (cE ar cl n sc a).bind fun ca=>(cE ar cl n sc b).map fun cb=>gS ca cb)=_ at q
    split at q
    ·cases q
    ·rename_i hs
     obtain ⟨ca,e1,q1⟩:=Option.bind_eq_some_iff.mp q
     obtain ⟨cb,e2,q2⟩:=Option.map_eq_some_iff.mp q1
     subst q2
     exact sg_sub (hu_of h.room) ((zGA n).1 X sc h _ _ e1) ((zGA n).1 X sc h _ _ e2) (zKf (by simpa using hs))
   | Tuple es j pos =>
    obtain ⟨gs,e1,q1⟩:=Option.map_eq_some_iff.mp q
    subst q1
    obtain ⟨h1,h2,h3⟩:=ihs X sc h es gs e1
    exact sg_tup h.calm h1 h2 h3
   | _=>cases q
  ·cases es with
   | nil=>cases q; exact ⟨zPX,rfl,rfl⟩
   | cons e r =>
    change (if zAe e=true then (cG ar cl n sc e).bind fun g=>(cGs ar cl n sc r).map fun gs=>g::gs else none)=_ at q
    split at q
    ·rename_i hs
     obtain ⟨g,e1,q1⟩:=Option.bind_eq_some_iff.mp q
     obtain ⟨gs',e2,q2⟩:=Option.map_eq_some_iff.mp q1
     subst q2
     obtain ⟨h1,h2,h3⟩:=ihs X sc h r gs' e2
     have ha:=zAP (es:=r) (env:=X.env) hs
     refine ⟨zNh (ih X sc h e g e1) h1 (by rw [ha]; rfl),by rw [ha]; simp [h2],by rw [ha,List.findIdx?_cons]; simp [h3]⟩
    ·cases q
noncomputable def zDv:Expr→Bool
 | .ListComp _ _ _ _=>true
 | .SetComp _ _ _ _=>true
 | .DictComp _ _ _ _ _=>true
 | _=>false
theorem zFF {e:Expr}{t:Option Expr}{n:Nat}{env:Env} (h:zDv e=false):swapsWith e t n env=pure false:=by
 cases e <;> first | rfl | cases h
noncomputable def zIf:Expr→Expr→Bool
 | .Name _ _,.ListComp _ _ _ _=>false
 | .Tuple _ _ _,.ListComp _ _ _ _=>false
 | _,e=>zDv e
theorem zKO (h:XOk X sc ar cl k):∀ {n:Nat}{elt:Expr}{gens:List Comprehension}{scope:Scope}{pos pos' spos:Pos}{x:Str}{c:C}{i:Nat} (q:cE ar cl n sc (.ListComp elt gens scope pos)=some c) (hgo:PG X (.Name x pos') (zFV i))
  (hsw:swapsWith (.ListComp elt gens scope pos) (some (.Name x pos')) spos.line X.env=pure true),PS X (.Assign [.Name x pos'] (.ListComp elt gens scope pos) spos) (tAsg (tOf X.K c) (zFV i))
 | 0,_,_,_,_,_,_,_,_,_,q,_,_=>by cases q
 | n+1,elt,gens,scope,pos,pos',spos,x,c,i,q,hgo,hsw=>by
  obtain ⟨ihE,ihT⟩:=zGA (ar:=ar) (cl:=cl) (k:=k) n
  cases gens with
  | nil=>cases q
  | cons g gs =>
   obtain ⟨tg,iter,ifs,ia⟩:=g
   cases gs with
   | cons _ _=>cases q
   | nil =>
    change (if ia=0 then zFB sc (zIr sc ar (cE ar cl n sc) tg iter) (cE ar cl n) (cT ar cl n) tg elt ifs scope else none)=some c at q
    split at q
    ·rename_i hz
     subst hz
     exact zNu h hgo hsw q (fun ci e=>zIR h (ihE X sc h) e) (fun X' sc' h'=>ihE X' sc' h') (fun X' sc' h'=>ihT X' sc' h')
    ·cases q
theorem zJu {elt:Expr}{gens:List Comprehension}{scope:Scope}{pos pos':Pos}{x:Str}{line:Nat}{env:Env}:∃ b:Bool,swapsWith (.ListComp elt gens scope pos) (some (.Name x pos')) line env=pure b:=⟨_,rfl⟩
inductive CB (tg e:Expr):Prop
 | no (h:∀ n env,swapsWith e (some tg) n env=pure false)
 | yes (x:Str) (pos':Pos) (elt:Expr) (gens:List Comprehension) (scope:Scope) (pos:Pos) (h1:tg=.Name x pos') (h2:e=.ListComp elt gens scope pos)
theorem CB.of {tg e:Expr} (h:zDv e=false):CB tg e:=.no fun _ _=>zFF h
theorem zFz {tg e:Expr} (h:zIf tg e=false):CB tg e:=by
 cases tg with
 | Name x pos' =>
  cases e with
  | ListComp elt gens scope pos=>exact .yes x pos' elt gens scope pos rfl rfl
  | _=>exact .of h
 | Tuple es k pos =>
  cases e with
  | ListComp elt gens scope pos=>exact .no fun _ _=>rfl
  | _=>exact .of h
 | _=>exact .of h
noncomputable def zOq:Expr→Bool
 | .List _ _=>true
 | _=>false
theorem zFc {tg e:Expr}{env:Env} (h:(zAx tg&&zAx e)=false) (hl:zOq tg=false):swappedStores [tg] e env=pure none:=by
 cases tg with
 | Tuple es n pos=>cases e <;> first | rfl | cases h
 | List es pos=>cases hl
 | _=>rfl
noncomputable def zD4 (sc:Sc):Expr→Bool
 | .Tuple [.Name x _,.Name y _] _ _=>sc.names.lookup x == some .cell||sc.names.lookup y == some .cell
 | .Tuple [.Subscript _ _ _,.Subscript _ _ _] _ _=>true
 | _=>false
theorem zHG {tg:Expr} (h:zD4 sc tg=true):(∃ x px y py k pos,tg=.Tuple [.Name x px,.Name y py] k pos∧(sc.names.lookup x=some .cell∨sc.names.lookup y=some .cell))∨∃ a b p c d q k pos,tg=.Tuple [.Subscript a b p,.Subscript c d q] k pos:=by
 unfold zD4 at h
 split at h
 ·rename_i x px y py k pos
  simp only [Bool.or_eq_true,beq_iff_eq] at h
  exact .inl ⟨x,px,y,py,k,pos,rfl,h⟩
 ·exact .inr ⟨_,_,_,_,_,_,_,_,rfl⟩
 ·cases h
theorem zGr {a b c d:Expr}{p q pos pos2:Pos}{k k2:Nat}{vs:List Expr}{env:Env}:swappedStores [.Tuple [.Subscript a b p,.Subscript c d q] k pos] (.Tuple vs k2 pos2) env=pure none:=by
 unfold swappedStores
 simp only [pure_bind]
 split
 ·rfl
 ·split
  ·rfl
  ·rw [if_pos]
   rfl
theorem zGs {x y:Str}{px py pos pos2:Pos}{k k2:Nat}{vs:List Expr}{env:Env} (h:env.scope.names.lookup x=some .cell∨env.scope.names.lookup y=some .cell):swappedStores [.Tuple [.Name x px,.Name y py] k pos] (.Tuple vs k2 pos2) env=pure none:=by
 have hn:(([Expr.Name x px,Expr.Name y py].filterMap fun e=>match e with
  | .Name id p=>if (env.kindOf id == some NameKind.local&&p.line == (([Expr.Name x px,Expr.Name y py].head?.map (·.pos.line)).getD 0))=true then some id else none
  | _=>none).length != 2)=true:=by
  have kx:env.kindOf x=env.scope.names.lookup x:=rfl
  have ky:env.kindOf y=env.scope.names.lookup y:=rfl
  have hc:(some NameKind.cell == some NameKind.local)=false:=by decide
  rcases h with h | h
  ·simp only [List.filterMap_cons,List.filterMap_nil,kx,h,hc,Bool.false_and,Bool.false_eq_true,if_false]
   split <;> rfl
  ·simp only [List.filterMap_cons,List.filterMap_nil,ky,h,hc,Bool.false_and,Bool.false_eq_true,if_false]
   split <;> rfl
 unfold swappedStores
 simp only [pure_bind]
 split
 ·rfl
 ·split
  ·rfl
  ·rw [if_pos]
   rw [Bool.or_eq_true]
   exact .inl hn
theorem zCt (h:XOk X sc ar cl k) {tg e:Expr} (c2:(zAx tg&&zAx e&&!zD4 sc tg)=false) (c3:zOq tg=false):swappedStores [tg] e X.env=pure none:=by
 cases hc:zD4 sc tg with
 | false =>
  rw [hc] at c2
  exact zFc (by simpa using c2) c3
 | true =>
  cases he:zAx e with
  | false=>exact zFc (by rw [he]; simp) c3
  | true =>
   obtain ⟨vs,k2,pt2,rfl⟩:=zLD he
   rcases zHG hc with ⟨x,px,y,py,kk,pos,rfl,hxy⟩ | ⟨_,_,_,_,_,_,_,_,rfl⟩
   ·exact zGs (hxy.imp (h.cel x) (h.cel y))
   ·exact zGr
noncomputable def parIn (sc:Sc) (t v:Expr × Expr) (n:Str × Str):Option (Nat × Nat × Expr × Expr) :=
 if n.1≠n.2∧sc.names.lookup n.1=some .local∧sc.names.lookup n.2=some .local∧t.1.pos.line=t.2.pos.line∧zAe v.1=true∧zAe v.2=true∧([v.1,v.2].all (foldedForSure 8))=false∧([v.1,v.2].all (constantsAlone 8))=false then
  (zDs sc.N n.1 0).bind fun i=>(zDs sc.N n.2 0).map fun j=>(i,j,v.1,v.2)
 else none
noncomputable def zFK (sc:Sc):Option Expr→Option Expr→Option Str
 | some (.Call (.Name x _) [.Constant (.str _) _ _] [] _),none=>if sc.names.lookup x=some .globalImplicit∧x∈excL∧(x == ("__debug__":Str))=false then some x else none
 | _,_=>none
theorem zQ6 (h:XOk X sc ar cl k) {a b:Option Expr}{x:Str}{pos:Pos} (e:zFK sc a b=some x):PS X (.Raise a b pos) (tOfS X (zAI x)):=by
 unfold zFK at e
 split at e
 ·split at e
  ·rename_i hc
   cases e
   exact zNf h.calm (h.gl _ hc.1) (h.exc _ hc.2.1) hc.2.2
  ·cases e
 ·cases e
noncomputable def rzOf (sc:Sc) (ar:Str→Option Nat):Expr→Option (Str × List Expr)
 | .Call (.Name g _) args [] _=>if g∈rzL∧sc.names.lookup g=some .globalImplicit∧ar g=some args.length∧args≠[]∧(g == ("__debug__":Str))=false then some (g,args) else none
 | _=>none
theorem s_rz (h:XOk X sc ar cl k) {f:Expr→Option C} (hf:zAF X f) {e:Expr}{g:Str}{args:List Expr}{cs:List C} (hz:rzOf sc ar e=some (g,args)) (e1:zA0? f args=some cs):PE X e (tOfX X (zAt (cl g) (zA0 cs))):=by
 unfold rzOf at hz
 split at hz
 ·split at hz
  ·rename_i hc
   obtain ⟨_,c5,c6,c7,c8⟩:=hc
   cases hz
   obtain ⟨h1,h2⟩:=zBh hf e1
   obtain ⟨⟨ps,Ca⟩,hlen⟩:=h.fns g _ c6
   cases args with
   | nil=>exact absurd rfl c7
   | cons a es=>exact (zCS Ca h.room (h.gl g c5) zCd h1 (Nat.le_refl _) c8 (zA6 (h2 a (by simp))) (zAR fun b hb=>h2 b (by simp [hb]))).weak (zCU hlen)
  ·cases hz
 ·cases hz
theorem s_rzE (h:XOk X sc ar cl k) {xs:List Str}{scope:Scope} (hok:compOk sc xs scope=true) {f:Sc→Expr→Option C} (hf:∀ X' sc',XOk X' sc' ar cl k→zAF X' (f sc')) {e:Expr}{g:Str}{args:List Expr}{cs:List C} (hz:rzOf (zCs xs scope) ar e=some (g,args)) (e1:zA0? (f (zCs xs scope)) args=some cs)
  {cl':List (Str × Addr)}{s:Shared}{H:Hp}{C0:Addr}{ex:List Addr}{xe:Value→Shared→Prop} (hp:zB1 (CX1 X.prog X.w) (zAn X scope (xs++zAb scope.names) cl' s H C0 ex xe) (EX X)):PE (zAn X scope (xs++zAb scope.names) cl' s H C0 ex xe) e (tOfX X (zAt (cl g) (zA0 cs))):=by
 have hY:=h.comp hok cl' s H C0 ex
 unfold rzOf at hz
 split at hz
 ·split at hz
  ·rename_i hc
   obtain ⟨_,c5,c6,c7,c8⟩:=hc
   cases hz
   obtain ⟨h1,h2⟩:=zBh (hf _ _ hY) e1
   obtain ⟨⟨ps,Ca⟩,hlen⟩:=h.fns g _ c6
   cases args with
   | nil=>exact absurd rfl c7
   | cons a es=>exact (zCS (X:=zAn X scope (xs++zAb scope.names) cl' s H C0 ex xe) Ca h.room (hY.gl g c5) hp (pa_E h1) (Nat.le_refl _) c8 (zA6 (h2 a (by simp))) (zAR fun b hb=>h2 b (by simp [hb]))).weak (zCU hlen)
  ·cases hz
 ·cases hz
noncomputable def cIfX (t:CT) (a b:C):C:=fun ρ S=>match t ρ S with
 | .ok k S1=>if k then a ρ S1 else b ρ S1
 | _=>.bad
theorem se_ifX {t a b:Expr}{pos:Pos}{ct:CT}{ca cb:C} (ht:PT X t (tOfT X.K ct)) (ha:PE X a (tOfX X ca)) (hb:PE X b (tOfX X cb)):PE X (.IfExp t a b pos) (tOfX X (cIfX ct ca cb)):=(zIU ht ha hb).weak (by
 rintro σ H Q ⟨μ,ρ,S,sr,re,y⟩
 unfold cIfX at y
 cases h:ct ρ S with
 | bad=>rw [h] at y; exact y.elim
 | er _ _=>rw [h] at y; exact y.elim
 | ok k S1 =>
  rw [h] at y
  refine ⟨μ,ρ,S,k,S1,sr,re,h,fun H1 μ1 sr1 st1=>?_⟩
  dsimp only at y
  cases k with
  | true =>
   refine ⟨μ1,ρ,S1,sr1,re.up st1,?_⟩
   revert y
   cases ca ρ S1 with
   | ok d S'=>exact fun y=>Yld.shift y st1
   | bad=>exact fun y=>y
   | er c S'=>exact fun y=>YldE.shift y st1
  | false =>
   refine ⟨μ1,ρ,S1,sr1,re.up st1,?_⟩
   revert y
   cases cb ρ S1 with
   | ok d S'=>exact fun y=>Yld.shift y st1
   | bad=>exact fun y=>y
   | er c S'=>exact fun y=>YldE.shift y st1)
noncomputable def zFJ (c:C) (g:G):CS:=fun ρ S=>match c ρ S with
 | .ok d S'=>match g d ρ S' with
  | .ok ρ' S2=>.nx ρ' S2
  | _=>.bad
 | .bad=>.bad
 | .er k S'=>.er k S'
theorem zPQ {tg e:Expr}{pos:Pos}{ce:C}{g:G} (he:PE X e (tOfX X ce)) (hg:PG X tg (tOfG X.K g)) (hs:swapsWithSole [tg] e pos.line X.env=pure false) (hw:swappedStores [tg] e X.env=pure none) (h1:(assignEach [tg] X.env).map (·.2)=[assign tg X.env]):PS X (.Assign [tg] e pos) (tOfS X (zFJ ce g)):=(zFk he hg hs hw h1).weak (by
 rintro E σ H ⟨μ,ρ,S,sr,re,p⟩
 refine ⟨μ,ρ,S,sr,re,?_⟩
 unfold zFJ at p
 revert p
 cases ce ρ S with
 | bad=>exact fun p=>p
 | er k S'=>exact fun p=>p
 | ok d S' =>
  dsimp only
  cases h2:g d ρ S' with
  | bad=>exact fun p=>False.elim p
  | er _ _=>exact fun p=>False.elim p
  | ok ρ' S2=>exact fun p v H1 μ1 sr1 st1 r1=>⟨μ1,ρ,S',d,ρ',S2,sr1,re.up st1,r1,h2,fun σ2 H2 μ2 sr2 st2 re2=>p σ2 H2 μ2 sr2 (st1.trans st2 sr2.nd) re2⟩)
noncomputable def cMZ (ar:Str→Option Nat) (cl:Str→List D→M D) (f:Expr→Option C) (sc:Sc) (e:Expr):Option C:=match e with
 | .Call (.Attribute (.Name y yp) m apos) [a] [] cpos=>if zAe a&&(apos.endLine == cpos.line) then (rzOf sc ar a).bind fun p=>(mtL.lookup m).bind fun q=>(f (.Name y yp)).bind fun co=>(zA0? f p.2).map fun cs=>zJm (cl q) co (zAt (cl p.1) (zA0 cs)) else none
 | _=>none
theorem s_mZ (h:XOk X sc ar cl k) {f:Expr→Option C} (hf:zAF X f) {e:Expr}{c:C} (q:cMZ ar cl f sc e=some c):PE X e (tOfX X c)∧zDv e=false:=by
 unfold cMZ at q
 split at q
 ·split at q
  ·rename_i hc
   rw [Bool.and_eq_true] at hc
   obtain ⟨p,z,q⟩:=Option.bind_eq_some_iff.mp q
   obtain ⟨g,e1,q⟩:=Option.bind_eq_some_iff.mp q
   obtain ⟨co,e2,q⟩:=Option.bind_eq_some_iff.mp q
   obtain ⟨cs,e3,q⟩:=Option.map_eq_some_iff.mp q
   subst q
   obtain ⟨M,hn⟩:=h.mts _ _ e1
   exact ⟨zNm M h.room (Nat.le_refl _) hn (hf _ _ e2) (s_rz h hf z e3) hc.1 hc.2,rfl⟩
  ·cases q
 ·cases q
noncomputable def cX (ar:Str→Option Nat) (cl:Str→List D→M D) (n:Nat) (sc:Sc) (e:Expr):Option C:=match cMZ ar cl (cE ar cl n sc) sc e with
 | some c=>some c
 | none=>match cDc ar cl (fun s e=>rzOf s ar e) (fun tg it=>zIr sc ar (cE ar cl n sc) tg it) (cE ar cl n) sc e with
 | some c=>some c
 | none=>match rzOf sc ar e with
 | some (g,args)=>(zA0? (cE ar cl n sc) args).map fun cs=>zAt (cl g) (zA0 cs)
 | none=>match e with
  | .IfExp t a b _=>(rzOf sc ar a).bind fun p=>(rzOf sc ar b).bind fun q=>(cT ar cl n sc t).bind fun ct=>(zA0? (cE ar cl n sc) p.2).bind fun ca=>(zA0? (cE ar cl n sc) q.2).map fun cb=>cIfX ct (zAt (cl p.1) (zA0 ca)) (zAt (cl q.1) (zA0 cb))
  | _=>none
theorem zQd {e:Expr}{p:Str × List Expr} (h:rzOf sc ar e=some p):zDv e=false:=by
 unfold rzOf at h
 split at h
 ·rfl
 ·cases h
theorem s_cX (h:XOk X sc ar cl k) {n:Nat} (hf:zAF X (cE ar cl n sc)) (ht:zFD X (cT ar cl n sc)) {e:Expr}{c:C} (q:cX ar cl n sc e=some c):PE X e (tOfX X c)∧zDv e=false:=by
 unfold cX at q
 split at q
 ·rename_i hz; cases q; exact s_mZ h hf hz
 split at q
 ·rename_i hz; cases q
  obtain ⟨z,_,_,_,_,rfl⟩:=s_dc h hz (fun tg iter ci e=>zIR h hf e) (fun X' sc' h'=>(zGA n).1 X' sc' h') fun scope xs hok b g args cs e4 e5 cl' s H C ex xe hp=>s_rzE h hok (fun X' sc' h'=>(zGA n).1 X' sc' h') e4 e5 hp
  exact ⟨z,rfl⟩
 split at q
 ·rename_i g args hz
  obtain ⟨cs,e1,q1⟩:=Option.map_eq_some_iff.mp q
  subst q1
  exact ⟨s_rz h hf hz e1,zQd hz⟩
 ·split at q
  ·obtain ⟨p,z1,q⟩:=Option.bind_eq_some_iff.mp q
   obtain ⟨p',z2,q⟩:=Option.bind_eq_some_iff.mp q
   obtain ⟨ct,z3,q⟩:=Option.bind_eq_some_iff.mp q
   obtain ⟨ca,z4,q⟩:=Option.bind_eq_some_iff.mp q
   obtain ⟨cb,z5,q⟩:=Option.map_eq_some_iff.mp q
   subst q
   exact ⟨se_ifX (ht _ _ z3) (s_rz h hf z1 z4) (s_rz h hf z2 z5),rfl⟩
  ·cases q
noncomputable def zPA:Nat:=100000
noncomputable def stB:Option CS→Option CS
 | some c=>some c
 | none=>some sBad
section
variable (ar:Str→Option Nat) (cl:Str→List D→M D)
mutual
noncomputable def cSt:Nat→Sc→Stmt→Option CS
 | 0,_,_=>none
 | n+1,sc,s=>match s with
  | .Return v _=>match v with
   | none=>some zQc
   | some e=>match cX ar cl n sc e with
    | some c=>some (zC5 c)
    | none=>(cE ar cl n sc e).map fun c=>sRet c
  | .Expr e _=>if zDv e then none else match cX ar cl n sc e with
   | some c=>some (zCQ c)
   | none=>(cE ar cl n sc e).map fun c=>zGB c
  | .Assign tgs e _=>match tgs with
   | [tg] =>
    if zIf tg e||(zAx tg&&zAx e&&!zD4 sc tg)||zOq tg||!zAe tg then none else match cX ar cl n sc e with
     | some c=>(cG ar cl n sc tg).map fun g=>zFJ c g
     | none=>(cE ar cl n sc e).bind fun c=>(cG ar cl n sc tg).map fun g=>sAsg c g
   | _=>none
  | .If t a b _=>(cT ar cl n sc t).bind fun ct=>(cSts n sc a).bind fun ca=>(cSts n sc b).map fun cb=>sIf ct ca cb
  | .For tg it body els _=>match els with
   | []=>(zIr sc ar (cE ar cl n sc) tg it).bind fun ci=>(cG ar cl n sc tg).bind fun g=>(cSts n sc body).map fun cb=>sFor ci g cb
   | _::_=>none
  | .While t body els _=>match els with
   | []=>(cT ar cl n sc t).bind fun ct=>(cSts n sc body).map fun cb=>zDr zPA ct cb
   | _::_=>none
  | .Pass _=>some zA3
  | .Break _=>some sBrk
  | .Continue _=>some sCnt
  | .Raise a b _=>match zFK sc a b with
   | some x=>some (zAI x)
   | none=>some sBad
  | _=>none
noncomputable def cSts:Nat→Sc→List Stmt→Option CS
 | 0,_,_=>none
 | n+1,sc,ss=>match ss with
  | []=>some zA3
  | s::r=>(stB (cSt n sc s)).bind fun c=>(cSts n sc r).map fun d=>sSeq c d
end
end
inductive ParE (sc:Sc) (tg e:Expr) (r:Nat × Nat × Expr × Expr):Prop
 | mk (x y:Str) (px py pt pt2:Pos) (kt k2:Nat) (v1 v2:Expr) (h1:tg=.Tuple [.Name x px,.Name y py] kt pt) (h2:e=.Tuple [v1,v2] k2 pt2) (hp:parIn sc (.Name x px,.Name y py) (v1,v2) (x,y)=some r)
theorem zL6 (h:XOk X sc ar cl k):PassesOwn (model X.prog X.w) X.A X.env X.xe:=h.own
theorem s_St:∀ n:Nat,(∀ X sc,XOk X sc ar cl k→∀ s c,cSt ar cl n sc s=some c→PS X s (tOfS X c))∧(∀ X sc,XOk X sc ar cl k→∀ s c,cSts ar cl n sc s=some c→PSs X s (tOfS X c))
 | 0=>⟨fun X sc h e c q=>(by cases q),fun X sc h e c q=>(by cases q)⟩
 | n+1=>by
  obtain ⟨ih,ihs⟩:=s_St n
  refine ⟨fun X sc h s c q=>?_,fun X sc h ss c q=>?_⟩
  ·have hf:=(zGA n).1 X sc h
   have ht:=(zGA n).2 X sc h
   have hg:=(s_G n).1 X sc h
   cases s with
   | Return v pos =>
    cases v with
    | none=>cases q; exact zPN
    | some e =>
     change (match cX ar cl n sc e with | some c=>some (zC5 c) | none=>(cE ar cl n sc e).map fun c=>sRet c)=some c at q
     split at q
     ·rename_i c' hz
      cases q
      exact zPM (s_cX h hf ht hz).1
     obtain ⟨ce,e1,q1⟩:=Option.map_eq_some_iff.mp q
     subst q1
     exact ss_ret (hf _ _ e1)
   | Expr e pos =>
    change (if zDv e=true then none else match cX ar cl n sc e with | some c=>some (zCQ c) | none=>(cE ar cl n sc e).map fun c=>zGB c)=some c at q
    split at q
    ·cases q
    ·rename_i hc
     split at q
     ·rename_i c' hz
      cases q
      exact zNg (s_cX h hf ht hz).1 (zFF (by simpa using hc))
     obtain ⟨ce,e1,q1⟩:=Option.map_eq_some_iff.mp q
     subst q1
     exact zPP (hf _ _ e1) (zFF (by simpa using hc))
   | Assign tgs e pos =>
    cases tgs with
    | nil=>cases q
    | cons tg r =>
     cases r with
     | cons _ _=>cases q
     | nil =>
      change (if zIf tg e||(zAx tg&&zAx e&&!zD4 sc tg)||zOq tg||!zAe tg then none else match cX ar cl n sc e with | some c=>(cG ar cl n sc tg).map fun g=>zFJ c g | none=>(cE ar cl n sc e).bind fun c=>(cG ar cl n sc tg).map fun g=>sAsg c g)=some c at q
      split at q
      ·cases q
      ·rename_i hc
       simp only [Bool.or_eq_true,not_or,Bool.not_eq_true,Bool.not_eq_true',Bool.not_eq_false] at hc
       obtain ⟨⟨⟨c1,c2⟩,c3⟩,c4⟩:=hc
       split at q
       ·rename_i c' hz
        obtain ⟨g,e2,q2⟩:=Option.map_eq_some_iff.mp q
        subst q2
        obtain ⟨z1,z2⟩:=s_cX h hf ht hz
        rcases zFz c1 with c1 | ⟨x,px,elt,gens,scope,pc,rfl,rfl⟩
        ·exact zPQ z1 (hg _ _ e2) (c1 _ _) (zCt h c2 c3) (by rw [zAP (by simpa using c4)]; rfl)
        ·cases z2
       obtain ⟨ce,e1,q1⟩:=Option.bind_eq_some_iff.mp q
       obtain ⟨g,e2,q2⟩:=Option.map_eq_some_iff.mp q1
       subst q2
       rcases zFz c1 with c1 | ⟨x,px,elt,gens,scope,pc,rfl,rfl⟩
       ·refine zP5 (hf _ _ e1) (hg _ _ e2) (c1 _ _) (zCt h c2 c3) ?_
        rw [zAP (by simpa using c4)]; rfl
       ·obtain ⟨b,hb⟩:=zJu (elt:=elt) (gens:=gens) (scope:=scope) (pos:=pc) (pos':=px) (x:=x) (line:=pos.line) (env:=X.env)
        cases b with
        | false=>exact zP5 (hf _ _ e1) (hg _ _ e2) hb (zCt h c2 c3) (by rw [zAP (by simpa using c4)]; rfl)
        | true =>
         cases n with
         | zero=>cases e2
         | succ n =>
          obtain ⟨i,rfl,h1,h2,h3⟩:=s_tg h e2
          exact ss_set (zKO h e1 (zC6 h.nd' h1 h2 h3) hb)
   | If t a b pos =>
    obtain ⟨ct,e0,q1⟩:=Option.bind_eq_some_iff.mp q
    obtain ⟨ca,e1,q2⟩:=Option.bind_eq_some_iff.mp q1
    obtain ⟨cb,e2,q3⟩:=Option.map_eq_some_iff.mp q2
    subst q3
    exact ss_if (ht _ _ e0) (ihs X sc h _ _ e1) (ihs X sc h _ _ e2)
   | For tg it body els pos =>
    cases els with
    | cons _ _=>cases q
    | nil =>
     obtain ⟨ci,e0,q1⟩:=Option.bind_eq_some_iff.mp q
     obtain ⟨g,e1,q2⟩:=Option.bind_eq_some_iff.mp q1
     obtain ⟨cb,e2,q3⟩:=Option.map_eq_some_iff.mp q2
     subst q3
     obtain ⟨i1,i2⟩:=zIR h hf e0
     exact ss_for (zL6 h) h.calm i1 (hg _ _ e1) (ihs X sc h _ _ e2) (zCZ i2)
   | While t body els pos =>
    cases els with
    | cons _ _=>cases q
    | nil =>
     obtain ⟨ct,e0,q1⟩:=Option.bind_eq_some_iff.mp q
     obtain ⟨cb,e2,q3⟩:=Option.map_eq_some_iff.mp q1
     subst q3
     exact zNe zPA (zL6 h) (ht _ _ e0) (ihs X sc h _ _ e2)
   | Pass pos=>cases q; exact zPO
   | Break pos=>cases q; exact ss_brk
   | Continue pos=>cases q; exact ss_cnt
   | Raise a b pos =>
    change (match zFK sc a b with | some x=>some (zAI x) | none=>some sBad)=some c at q
    split at q
    ·rename_i x hx
     cases q
     exact zQ6 h hx
    ·cases q; exact zP4
   | _=>cases q
  ·cases ss with
   | nil=>cases q; exact zPL
   | cons s r =>
    obtain ⟨c1,e1,q1⟩:=Option.bind_eq_some_iff.mp q
    obtain ⟨c2,e2,q2⟩:=Option.map_eq_some_iff.mp q1
    subst q2
    cases e3:cSt ar cl n sc s with
    | none=>rw [e3] at e1; cases e1; exact zIN zP4 (ihs X sc h _ _ e2)
    | some c=>rw [e3] at e1; cases e1; exact zIN (ih X sc h _ _ e3) (ihs X sc h _ _ e2)
noncomputable def zCJ (n:Nat) (ds:List D):Env1:=ds.map some++List.replicate (n - ds.length) none
noncomputable def runF (np nN:Nat) (b:CS):List D→M D:=fun ds S=>if ds.length=np then (match b (zCJ nN ds) S with
 | .nx _ S'=>.ok .non S'
 | .rt d S'=>.ok d S'
 | .er c S'=>.er c S'
 | _=>.bad) else .bad
theorem RVs.begins {K:W.Frag}{H:Hp}{μ:List Addr}{N:List Str}{ds:List D}{vs:List V} (r:RVs K H μ ds vs):RE K H μ (zCJ N.length ds) (start N vs):=by
 unfold zCJ start
 refine ⟨by simp [r.len],fun i d e=>?_⟩
 by_cases hi:i<ds.length
 ·rw [List.getElem?_append_left (by simpa using hi),List.getElem?_map] at e
  rw [List.getElem?_append_left (by rw [List.length_map,← r.len]; exact hi),List.getElem?_map]
  cases q:ds[i]? with
  | none=>rw [q] at e; cases e
  | some d' =>
   rw [q] at e; cases e
   obtain ⟨v,e1,e2⟩:=r.get q
   exact ⟨v,by rw [e1]; rfl,e2⟩
 ·rw [List.getElem?_append_right (by simpa using hi),List.getElem?_replicate] at e
  split at e <;> cases e
noncomputable def fnOk (N ps:List Str) (scope:Scope):Bool :=
 decide (scope.kind=.function)&&!scope.isCoroutine&&!scope.isGenerator&&decide N.Nodup&&decide (N.take ps.length=ps)&&ps.all (fun x=>scope.names.lookup x == some .local||scope.names.lookup x == some .cell)&&scope.names.all (fun y=>y.2 != .free)
theorem zDb {N ps:List Str}{scope:Scope} (h:fnOk N ps scope=true):zBw N ps scope:=by
 unfold fnOk at h
 simp only [Bool.and_eq_true,decide_eq_true_eq,Bool.not_eq_true'] at h
 obtain ⟨⟨⟨⟨⟨⟨c1,c2⟩,c3⟩,c4⟩,c5⟩,c6⟩,c7⟩:=h
 refine ⟨c1,c2,c3,c4,c5,fun x hx=>?_,fun y hy=>?_⟩
 ·have:=List.all_eq_true.mp c6 x hx
  simpa using this
 ·have:=List.all_eq_true.mp c7 y hy
  simpa using this
inductive LamF (K:W.Frag) (mg:Str→Option Value) (base:Heap) (fd:FuncData) (x:Str):Prop
 | mk (c T:Addr) (tab:W.tabIn K x=some (c,T)) (code:fd.code=.ref c) (hd:W.CodeHd base c T) (blt:base.BuiltinsAt mg T) (ne:mainGlobals≠T)
def RefH (P:Program) (w:World) (K:W.Frag) (mg:Str→Option Value) (base:Heap):Prop:=(∀ t∈rfN,RefIn P w K mg base t 4 rfB)∧zFZ K=true∧(∀ c∈xoL,∃ C,mg c=some (.ref C)∧exG K c=some C)∧mg "ValueError"=none
theorem Fun.okX {CX:CXT}{P:Program}{w:World}{K:W.Frag}{mg:Str→Option Value}{base:Heap}{x qual:Str}{st:Stmt}{f:Addr}{fd:FuncData}{N ps:List Str}{k:Nat}{sp:Sp} (F:Fun K x qual st f fd) (S:zBw N ps (zA1 st)) (len:∀ vs H Q E,sp vs H Q E→vs.length=ps.length)
  (hbody:∀ (cdv:Value) (A:Around) (outer:List Env) (s:Shared) (H:Hp) (vs:List V) (Q:VK) (E:XK),fd.code=cdv→Room k (A.deeper (envOfC qual (zA1 st) s.heap.objs.size f cdv))→sp vs H Q E →
   ∃ t,PSs (cxOf CX P w K mg base N qual (zA1 st) f cdv A outer s H E) (zAc st) t∧t { nx:=fun _ H'=>Q .non H',rt:=Q } (start N vs) H):FnOk P w K mg base CX (k+1) f fd ps sp:=by
 obtain ⟨oc,od,kV,doc,pm,an,cdv,ct,osl,rfl,lk,hcd⟩:=F.ex
 exact fn_of lk hcd S len fun A outer s H vs Q E hr hsp=>hbody cdv A outer s H vs Q E rfl hr hsp
theorem s_fn {P:Program}{w:World}{K:W.Frag}{mg:Str→Option Value}{base:Heap}{x:Str}{st:Stmt}{fa:Addr}{fd:FuncData}{N ps:List Str}{fuel:Nat}{b:CS}{yn:Str} (F:Fun K yn x st fa fd)
  (hs:fnOk N ps (zA1 st)=true) (hc:cSts ar cl fuel ⟨N,(zA1 st).names,some x⟩ (zAc st)=some b)
  (hB:MgOk ar mg) (hX:∀ x∈excL,∃ C,mg x=some (.ref C)∧ExcK K C)
  (hL:x=lamD→LamF K mg base fd x) (hT:∀ t ws,tkL.lookup t=some ws→zDn K mg t ws)
  (hR:RefH P w K mg base)
  (hD:DkH w K mg) (ihm:∀ m q,mtL.lookup m=some q→zGk P w K mg base m (3*k) (zBn K mg (cl q) 2)∧∀ ds S,cl q ds S≠.bad→ds.length=2)
  (ih:∀ y n,ar y=some n→(∃ ps,zDq P w K mg base y ps (3*k) (zBn K mg (cl y) n))∧∀ ds S,cl y ds S≠.bad→ds.length=n):FnOk P w K mg base (CX1 P w) (3*k+2+1) fa fd ps (zBn K mg (runF ps.length N.length b) ps.length):=by
 have S:=zDb hs
 refine F.okX (k:=3*k+2) S (fun vs H Q E h=>h.1) (fun cdv A outer s H vs Q E hcd hr h=>?_)
 obtain ⟨hl,μ,ds,S0,sr,rv,y⟩:=h
 have o:Own1 (cxOf (CX1 P w) P w K mg base N x (zA1 st) fa cdv A outer s H E) E:=⟨rfl,rfl,rfl,rfl⟩
 have hX:XOk (cxOf (CX1 P w) P w K mg base N x (zA1 st) fa cdv A outer s H E) ⟨N,(zA1 st).names,some x⟩ ar cl k:={
  calm:=rfl
  N:=rfl
  nd:=S.nd
  gl:=fun x hx=>hx
  loc:=fun x hx=>hx
  cel:=fun x hx=>hx
  fre:=fun x hx=>.inr hx
  fnn:=fun _ x=>rfl
  room:=hr.mono (by omega)
  roomT:=fun _=>hr
  lam:=fun z=>by
   have z':x=lamD:=Option.some.inj z
   obtain ⟨c,T,t1,t2,t3,t4,t5⟩:=hL z'
   rw [← z']
   exact ⟨c,T,t1,hcd.symm.trans t2,rfl,t3,t4,t5⟩
  tk:=fun _=>hT
  rf:=fun _=>hR.1
  xk:=hR.2.1
  xm:=hR.2.2.1
  xv:=hR.2.2.2
  own:=PassesOwn.leaving
  exc:=hX
  blt:=hB
  dkc:=hD.1
  fm:=hD.2.2
  dkn:=fun _=>hD.2.1
  mts:=ihm
  frm:=fun _=>⟨o.stk,o.fr⟩
  fns:=ih }
 refine ⟨_,(s_St fuel).2 _ _ hX _ _ hc,μ,zCJ N.length ds,S0,sr,rv.begins,?_⟩
 unfold runF at y
 rw [if_pos (rv.len.trans hl)] at y
 revert y
 cases b (zCJ N.length ds) S0 with
 | nx ρ S2=>exact fun y σ' H' μ' sr' st' re'=>y _ H' μ' sr' st' zCq
 | rt d' S2=>exact fun y=>y
 | er c S2=>exact fun y H' μ' sr' st' C hm=>zM3 o (y H' μ' sr' st' C hm)
 | bad=>exact fun y=>y
 | bk _ _=>exact fun y=>False.elim y
 | ct _ _=>exact fun y=>False.elim y
theorem s_def {P:Program}{w:World}{K:W.Frag}{mg:Str→Option Value}{base:Heap}{x:Str}{st:Stmt}{fa:Addr}{fd:FuncData}{N ps:List Str}{fuel:Nat}{b:CS} (F:Fun K x x st fa fd) (m:mg x=some (.ref fa)) (hb:zBN K fd ps [])
  (hs:fnOk N ps (zA1 st)=true) (hc:cSts ar cl fuel ⟨N,(zA1 st).names,some x⟩ (zAc st)=some b)
  (hB:MgOk ar mg) (hX:∀ x∈excL,∃ C,mg x=some (.ref C)∧ExcK K C)
  (hL:x=lamD→LamF K mg base fd x) (hT:∀ t ws,tkL.lookup t=some ws→zDn K mg t ws)
  (hR:RefH P w K mg base)
  (hD:DkH w K mg) (ihm:∀ m q,mtL.lookup m=some q→zGk P w K mg base m (3*k) (zBn K mg (cl q) 2)∧∀ ds S,cl q ds S≠.bad→ds.length=2)
  (ih:∀ y n,ar y=some n→(∃ ps,zDq P w K mg base y ps (3*k) (zBn K mg (cl y) n))∧∀ ds S,cl y ds S≠.bad→ds.length=n):zDq P w K mg base x ps (3*(k+1)) (zBn K mg (runF ps.length N.length b) ps.length) :=
 ⟨fa,fd,s_fn F hs hc hB hX hL hT hR hD ihm ih,hb,F.kp,m⟩
end
open PySem PySem.Spec PyProof.Rows
noncomputable abbrev CLL:=Str→List D→M D
noncomputable abbrev Tbl:=List (Str × (Nat × Nat × (CLL→CS)))
noncomputable def isM (x:Str):Bool:=mtL.any fun p=>p.2 == x
noncomputable def arT (tbl:Tbl) (x:Str):Option Nat:=if isM x then none else (tbl.lookup x).map (·.1)
noncomputable def zAk (tbl:Tbl):Nat→CLL
 | 0,_=>fun _ _=>.bad
 | n+1,x=>match tbl.lookup x with
  | some p=>if x=("Desk.say":Str) then zCB 2 (runF p.1 p.2.1 (p.2.2 (zAk tbl n))) else runF p.1 p.2.1 (p.2.2 (zAk tbl n))
  | none=>fun _ _=>.bad
structure zIG (K:W.Frag) (mg:Str→Option Value) (ar:Str→Option Nat) (x:Str) (p:Nat × Nat × (CLL→CS)):Prop where
 ex:∃ (st:Stmt) (fa:Addr) (fd:FuncData) (N ps:List Str) (fuel:Nat),Fun K x x st fa fd∧mg x=some (.ref fa)∧zBN K fd ps []∧fnOk N ps (zA1 st)=true∧ps.length=p.1∧N.length=p.2.1 ∧
  ∀ cl:CLL,cSts ar cl fuel ⟨N,(zA1 st).names,some x⟩ (zAc st)=some (p.2.2 cl)
theorem zFq {α:Type}{tbl:List (Str × α)}{x:Str}{p:α} (h:tbl.lookup x=some p):(x,p)∈tbl:=by
 induction tbl with
 | nil=>cases h
 | cons y r ih =>
  obtain ⟨y1,y2⟩:=y
  rw [List.lookup_cons] at h
  split at h
  ·simp_all
  ·exact List.mem_cons_of_mem _ (ih h)
theorem zDV {np nN:Nat}{b:CS}{ds:List D}{S:zA2} (h:runF np nN b ds S≠.bad):ds.length=np:=by
 unfold runF at h
 split at h
 ·assumption
 ·exact absurd rfl h
structure zHD (K:W.Frag) (ar:Str→Option Nat) (m q:Str) (p:Nat × Nat × (CLL→CS)):Prop where
 ex:∃ (st:Stmt) (fa:Addr) (fd:FuncData) (N ps:List Str) (fuel:Nat) (C:Addr),Fun K m q st fa fd∧DkC K C∧Cls K C∧Meth K C m fa∧zBN K fd ps []∧fnOk N ps (zA1 st)=true∧ps.length=p.1∧N.length=p.2.1∧m ≠ "kept"∧q≠lamD ∧
  ∀ cl:CLL,cSts ar cl fuel ⟨N,(zA1 st).names,some q⟩ (zAc st)=some (p.2.2 cl)
theorem mth0 {P:Program}{w:World}{K:W.Frag}{mg:Str→Option Value}{base:Heap}{ar:Str→Option Nat}{tbl:Tbl} (hM:∀ m q,mtL.lookup m=some q→∃ p,tbl.lookup q=some p∧p.1=2∧zHD K ar m q p) (m q:Str) (h:mtL.lookup m=some q):zGk P w K mg base m (3*0) (zBn K mg (fun _ _=>.bad) 2):=by
 have no:∀ vs H Q E,¬ zBn K mg (fun _ _=>.bad) 2 vs H Q E:=fun vs H Q E h=>by
  obtain ⟨_,μ,ds,S,_,_,y⟩:=h
  exact y
 obtain ⟨p,hp,_,M⟩:=hM m q h
 obtain ⟨st,fa,fd,N,ps,fuel,C,F,dc,c,hm,hb,_,_,_,nk,_⟩:=M.ex
 exact ⟨C,fa,fd,ps,dc,c,hm,⟨fun vs H Q E h=>(no _ _ _ _ h).elim,fun A outer s H args us vs Q E _ _ _ _ h=>(no _ _ _ _ h).elim⟩,hb,nk⟩
theorem zP2 {P:Program}{w:World}{K:W.Frag}{mg:Str→Option Value}{base:Heap}{tbl:Tbl} (hd:∀ x p,isM x=false→tbl.lookup x=some p→zIG K mg (arT tbl) x p) (hM:∀ m q,mtL.lookup m=some q→∃ p,tbl.lookup q=some p∧p.1=2∧zHD K (arT tbl) m q p) (hB:MgOk (arT tbl) mg) (hX:∀ x∈excL,∃ C,mg x=some (.ref C)∧ExcK K C)
  (hL:∀ x st fa fd,Fun K x x st fa fd→mg x=some (.ref fa)→x=lamD→LamF K mg base fd x) (hT:∀ t ws,tkL.lookup t=some ws→zDn K mg t ws) (hR:RefH P w K mg base) (hD:DkH w K mg) :
  ∀ (k:Nat),(∀ (x:Str) (n:Nat),arT tbl x=some n→(∃ ps,zDq P w K mg base x ps (3*k) (zBn K mg (zAk tbl k x) n))∧∀ ds S,zAk tbl k x ds S≠.bad→ds.length=n) ∧
   ∀ m q,mtL.lookup m=some q→zGk P w K mg base m (3*k) (zBn K mg (zAk tbl k q) 2)∧∀ ds S,zAk tbl k q ds S≠.bad→ds.length=2
 | 0=>by
  have no:∀ x n vs H Q E,¬ zBn K mg (zAk tbl 0 x) n vs H Q E:=fun x n vs H Q E h=>by
   obtain ⟨_,μ,ds,S,_,_,y⟩:=h
   exact y
  refine ⟨fun x n h=>?_,fun m q h=>?_⟩
  ·unfold arT at h
   split at h
   ·cases h
   ·rename_i hm
    obtain ⟨p,hp,rfl⟩:=Option.map_eq_some_iff.mp h
    obtain ⟨st,fa,fd,N,ps,fuel,F,m,hb,_⟩:=(hd x p (by simpa using hm) hp).ex
    exact ⟨⟨ps,fa,fd,⟨fun vs H Q E h=>(no _ _ _ _ _ _ h).elim,fun A outer s H args us vs Q E _ _ _ _ h=>(no _ _ _ _ _ _ h).elim⟩,hb,F.kp,m⟩,fun ds S e=>absurd rfl e⟩
  ·obtain ⟨p,hp,_,M⟩:=hM m q h
   obtain ⟨st,fa,fd,N,ps,fuel,C,F,dc,c,hm,hb,_,_,_,nk,_⟩:=M.ex
   exact ⟨⟨C,fa,fd,ps,dc,c,hm,⟨fun vs H Q E h=>(no _ _ _ _ _ _ h).elim,fun A outer s H args us vs Q E _ _ _ _ h=>(no _ _ _ _ _ _ h).elim⟩,hb,nk⟩,fun ds S e=>absurd rfl e⟩
 | k+1=>by
  obtain ⟨ih,ihm⟩:=zP2 (P:=P) (w:=w) (base:=base) hd hM hB hX hL hT hR hD k
  refine ⟨fun x n h=>?_,fun m q h=>?_⟩
  ·unfold arT at h
   split at h
   ·cases h
   ·rename_i hm
    obtain ⟨p,hp,rfl⟩:=Option.map_eq_some_iff.mp h
    obtain ⟨st,fa,fd,N,ps,fuel,F,m,hb,hs,e1,e2,hc⟩:=(hd x p (by simpa using hm) hp).ex
    have q:=s_def (P:=P) (w:=w) (base:=base) (k:=k) F m hb hs (hc (zAk tbl k)) hB hX (hL x st fa fd F m) hT hR hD ihm ih
    have e3:zAk tbl (k+1) x=runF p.1 p.2.1 (p.2.2 (zAk tbl k)):=by
     show (match tbl.lookup x with | some p=>if x=("Desk.say":Str) then zCB 2 (runF p.1 p.2.1 (p.2.2 (zAk tbl k))) else runF p.1 p.2.1 (p.2.2 (zAk tbl k)) | none=>fun _ _=>.bad)=_
     rw [hp]
     exact if_neg fun z=>hm (by rw [z]; decide)
    rw [e1,e2] at q
    rw [e3]
    exact ⟨⟨ps,q⟩,fun ds S e=>zDV e⟩
  ·obtain ⟨p,hp,h2,M⟩:=hM m q h
   obtain ⟨st,fa,fd,N,ps,fuel,C,F,dc,c,hm,hb,hs,e1,e2,nk,nl,hc⟩:=M.ex
   have g:=s_fn (P:=P) (w:=w) (base:=base) (k:=k) F hs (hc (zAk tbl k)) hB hX (fun z=>absurd z nl) hT hR hD ihm ih
   rw [e1,e2,h2] at g
   have e3:zAk tbl (k+1) q=if q=("Desk.say":Str) then zCB 2 (runF 2 p.2.1 (p.2.2 (zAk tbl k))) else runF 2 p.2.1 (p.2.2 (zAk tbl k)):=by
    show (match tbl.lookup q with | some p=>if q=("Desk.say":Str) then zCB 2 (runF p.1 p.2.1 (p.2.2 (zAk tbl k))) else runF p.1 p.2.1 (p.2.2 (zAk tbl k)) | none=>fun _ _=>.bad)=_
    rw [hp]
    dsimp only
    rw [h2]
   rw [e3]
   by_cases z:q=("Desk.say":Str)
   ·rw [if_pos z]
    exact ⟨⟨C,fa,fd,ps,dc,c,hm,g.imp fun vs H Q E h=>zOQ h,hb,nk⟩,zMo fun ds S e=>zDV e⟩
   ·rw [if_neg z]
    exact ⟨⟨C,fa,fd,ps,dc,c,hm,g,hb,nk⟩,fun ds S e=>zDV e⟩
noncomputable def spL (K:W.Frag):Sp:=fun vs H Q _=>∃ (a:Addr) (ns:List Int) (T c:Addr),vs=[.ref a]∧SqF K H a (ns.map V.int)∧ns.length≤63∧H T=some (.tbl #[])∧W.tabIn K lamD=some (c,T)∧∀ H',Q (.bl true) H'
theorem law_ok {P:Program}{w:World}{K:W.Frag}{mg:Str→Option Value}{base:Heap}{tbl:Tbl}{fa:Addr}{fd:FuncData}{st:Stmt}{L nN fuel:Nat}{N:List Str}{b:CLL→CS} 
  (hd:∀ x p,isM x=false→tbl.lookup x=some p→zIG K mg (arT tbl) x p) (hM:∀ m q,mtL.lookup m=some q→∃ p,tbl.lookup q=some p∧p.1=2∧zHD K (arT tbl) m q p) (hD:DkH w K mg)
  (hB:MgOk (arT tbl) mg) (hX:∀ x∈excL,∃ C,mg x=some (.ref C)∧ExcK K C)
  (hL:∀ x st fa fd,Fun K x x st fa fd→mg x=some (.ref fa)→x=lamD→LamF K mg base fd x) (hT:∀ t ws,tkL.lookup t=some ws→zDn K mg t ws) (hm:mg "law"=some (.ref fa))
  (hR:RefH P w K mg base)
  (hl:tbl.lookup ("law":Str)=some (1,nN,b)) (F:Fun K "law" "law" st fa fd) (hs:fnOk N ["_law_script"] (zA1 st)=true) (hN:N.length=nN) (hc:∀ cl:CLL,cSts (arT tbl) cl fuel ⟨N,(zA1 st).names,some "law"⟩ (zAc st)=some (b cl))
  (hlaw:∀ ns:List Int,ns.length≤63→∃ S',zAk tbl (L+1) "law" [.rol (ns.map D.int)] [.tb lamD]=.ok (.bl true) S') :
  FnOk P w K mg base (CX1 P w) (3*(L+1)) fa fd ["_law_script"] (spL K):=by
 have tk:=zP2 (P:=P) (w:=w) (base:=base) hd hM hB hX hL hT hR hD L
 have q:=s_fn (P:=P) (w:=w) (base:=base) (k:=L) F hs (hc (zAk tbl L)) hB hX (hL "law" st fa fd F hm) hT hR hD tk.2 tk.1
 refine q.imp fun vs H Q E h=>?_
 obtain ⟨a,ns,T,c,rfl,hS,hn,hT1,hT2,hQ⟩:=h
 obtain ⟨S',e⟩:=hlaw ns hn
 have e3:zAk tbl (L+1) "law"=runF 1 nN (b (zAk tbl L)):=by
  show (match tbl.lookup ("law":Str) with | some p=>if ("law":Str)=("Desk.say":Str) then zCB 2 (runF p.1 p.2.1 (p.2.2 (zAk tbl L))) else runF p.1 p.2.1 (p.2.2 (zAk tbl L)) | none=>fun _ _=>.bad)=_
  rw [hl]
  exact if_neg (by decide)
 rw [e3] at e
 refine ⟨rfl,[T],[.rol (ns.map D.int)],[.tb lamD],⟨rfl,by simp,fun n a o h1 h2=>?_⟩,.cons (by unfold RV; exact ⟨a,_,rfl,hS,RVs.ints⟩) .nil,?_⟩
 ·cases n with
  | succ n=>simp at h1
  | zero =>
   simp at h1 h2
   subst h1 h2
   exact ⟨#[],hT1,⟨c,hT2⟩,trivial,fun pos cv z=>by cases z⟩
 rw [hN,show runF (["_law_script"]:List Str).length nN (b (zAk tbl L)) [.rol (ns.map D.int)] [.tb lamD]=.ok (.bl true) S' from e]
 refine fun v H' μ' _ _ r=>?_
 unfold RV at r
 subst r
 exact hQ H'
theorem lamF_of {K:W.Frag}{mg:Str→Option Value}{base:Heap}{c T:Addr} (kb:K.In base) (nb:base.Ns mainGlobals mg) (tab:W.tabIn K lamD=some (c,T)) (hd:W.CodeHd base c T) (blt:base.BuiltinsAt mg T) (ne:mainGlobals≠T) :
  ∀ x st fa fd,Fun K x x st fa fd→mg x=some (.ref fa)→x=lamD→LamF K mg base fd x:=fun x st fa fd F m e=>by
 subst e
 obtain ⟨oc,od,kV,doc,pm,an,cdv,ct,osl,e,lk,_⟩:=F.ex
 exact ⟨c,T,tab,W.law_code kb nb tab m (kb _ _ lk) rfl,hd,blt,ne⟩
noncomputable def hH (K:W.Frag) (T a:Addr) (o:Obj) (xs:List V):Hp:=fun b=>if b=T then some (.tbl #[]) else if b=a then (if K.lookup a=none then some (.frz o (.lst xs)) else none) else none
theorem zLu {P:Program}{w:World}{K:W.Frag}{mg mb:Str→Option Value}{k:Nat}{fa a c T:Addr}{fd:FuncData}{x:Str}{sp:Sp}{s₁:Shared}{vs:List Value}{ns:List Int}
  (KX:K.In s₁.heap) (hns:s₁.heap.Ns mainGlobals mg) (hb:s₁.heap.Ns builtinsNs mb) (hbb:∀ x:Str,x ≠ "__name__"→mb x=bootBuiltins x) (hlim:s₁.heap.NoLimit) (hg:s₁.gens=#[])
  (ha:s₁.heap.get? a=some { cls:=.type "list",data:=.seq vs.toArray }) (hi:IntsAre vs ns) (hl:ns.length≤sizeLine) (hr:Room k callerA)
  (C:W.CodeHd s₁.heap c T) (hT:s₁.heap.get? T=some (W.tabObj #[])) (B:s₁.heap.BuiltinsAt mg T) (nK:K.lookup T=none)
  (F:∀ base:Heap,K.In base→base.Ns mainGlobals mg→W.CodeHd base c T→base.BuiltinsAt mg T→FnOk P w K mg base (CX1 P w) k fa fd [x] sp) (hbind:∀ (s:Shared) (u:Value),BindsTo s fd ⟨[u],[]⟩ [(x,u)])
  (hsp:∀ H:Hp,SqF K H a (ns.map V.int)→H T=some (.tbl #[])→sp [.ref a] H (fun v _=>v=.bl true) fun _ _ _=>False) :
  codeAny (model P w) callerA (.call (.ref fa) ⟨[.ref a],[]⟩) (fun r s'=>r=.ok (.ret (.bool true))∧OldK s₁.heap s'.heap∧s'.os=s₁.os∧AllBare s'.gens) s₁:=by
 have rv:=zGn hi
 have lenV:=hi.length
 have aT:a≠T:=fun z=>by rw [z,hT] at ha; cases ha
 obtain ⟨H,hH'⟩:∃ H,hH K T a { cls:=.type "list",data:=.seq vs.toArray } (ns.map V.int)=H:=⟨_,rfl⟩
 have H_T:H T=some (.tbl #[]):=by rw [← hH']; unfold hH; rw [if_pos rfl]
 have H_a:H a=if K.lookup a=none then some (.frz { cls:=.type "list",data:=.seq vs.toArray } (.lst (ns.map V.int))) else none:=by rw [← hH']; unfold hH; rw [if_neg aT,if_pos rfl]
 have H_o:∀ b,b≠T→b≠a→H b=none:=fun b n1 n2=>by rw [← hH']; unfold hH; rw [if_neg n1,if_neg n2]
 have sq:SqF K H a (ns.map V.int):=by
  cases hk:K.lookup a with
  | none=>exact .inl ⟨_,by rw [H_a,if_pos hk]⟩
  | some o =>
   have e:=KX a o hk
   rw [ha] at e
   cases e
   exact .inr ⟨_,vs.toArray,_,hk,rfl,rfl,rfl,by rw [List.size_toArray,lenV]; exact hl,by simpa using rv⟩
 have hok:HOk P w H s₁.heap:=fun b u e=>by
  by_cases n1:b=T
  ·subst n1; rw [H_T] at e; cases e; exact hT
  ·by_cases n2:b=a
   ·subst n2
    rw [H_a] at e
    split at e
    ·cases e
     exact ⟨ha,by rw [List.length_map]; exact hl,vs,_,rv,ha⟩
    ·cases e
   ·rw [H_o b n1 n2] at e; cases e
 have base_of:∀ {b:Addr}{o:Obj},s₁.heap.get? b=some o→H b=none→(hidT s₁.heap H).get? b=some o:=fun e n=>zOy e n
 have noA:∀ {b:Addr}{o:Obj},s₁.heap.get? b=some o→b≠T→o.cls≠.type "list"→H b=none:=fun {b o} e n1 n2=>H_o b n1 fun z=>by rw [z,ha] at e; cases e; exact n2 rfl
 have nsK:∀ {b:Addr}{m:Str→Option Value},s₁.heap.Ns b m→(hidT s₁.heap H).Ns b m:=fun {b m} ⟨o,es,ep,e,d,r⟩=>⟨o,es,ep,base_of e (H_o b (fun z=>by rw [z,hT] at e; cases e; cases d) fun z=>by rw [z,ha] at e; cases e; cases d),d,r⟩
 have hKb:=fun b o e=>base_of (KX b o e) (by
  by_cases n1:b=T
  ·rw [n1,nK] at e; cases e
  ·by_cases n2:b=a
   ·simp_all
   ·exact H_o b n1 n2)
 have hM:Mod K mg (hidT s₁.heap H):=⟨hKb,nsK hns,⟨mb,nsK hb,hbb⟩,let ⟨mc,h1,h2⟩:=hlim; ⟨mc,nsK h1,h2⟩⟩
 have e0:Env0 P w K mg (hidT s₁.heap H) callerA [] s₁ H:=⟨rfl,hM,fun b o e=>of_hidT e,Nat.le_of_eq (zLL _ _),trivial,fun b hb=>absurd (show b∈([]) from hb) (by simp),hok,.of_eq hg⟩
 have C':W.CodeHd (hidT s₁.heap H) c T:=by
  obtain ⟨o,vs',file,tf,flags,tg,inF,text,tt,e1,e2,e3,e4,f3,f4,f5,f6,f7,f11⟩:=C
  exact ⟨o,vs',file,tf,flags,tg,inF,text,tt,base_of e1 (noA e1 f11 (by rw [e2]; exact fun z=>absurd (Value.type.inj z) (by decide))),e2,e3,e4,f3,f4,f5,f6,f7,f11⟩
 have B':(hidT s₁.heap H).BuiltinsAt mg T:=by
  obtain ⟨bm,o,b1,b2,b3,b4,b5,b6,b7,b8⟩:=B
  exact ⟨bm,o,b1,b2,b3,b4,base_of b5 (noA b5 b4 (by rw [b6]; exact fun z=>absurd (Value.type.inj z) (by decide))),b6,b7,b8⟩
 refine codeAny_mono ((F _ hKb (nsK hns) C' B').run callerA [] s₁ H ⟨[.ref a],[]⟩ [.ref a] [.ref a] _ _ hr e0 (hbind s₁ (.ref a)) (.cons rfl .nil) (hsp H sq H_T)) fun r s' h=>?_
 cases r with
 | error e =>
  obtain ⟨_,_,_,_,_,_,_,_,_,_,_,_,_,_,z⟩:=h
  exact z.elim
 | ok fl =>
  cases fl with
  | next=>exact False.elim h
  | brk=>exact False.elim h
  | cont=>exact False.elim h
  | ret u =>
   obtain ⟨v,H',os,bare,un,hok',r',q⟩:=h
   have q':=q
   subst q'
   obtain rfl:u=Value.bool true:=r'
   have fin:=fun b o nb e=>by
    cases q:H b with
    | none=>exact un.keep b o e q (by intro z; exact absurd (show b∈([]) from z) (by simp)) (by simp)
    | some u =>
     have nba:=Classical.byContradiction fun z=>by rw [H_o b nb z] at q; cases q
     subst nba
     rw [H_a] at q
     split at q
     ·rename_i hk
      have z:H b=some (.frz { cls:=.type "list",data:=.seq vs.toArray } (.lst (ns.map V.int))):=by rw [H_a,if_pos hk]
      obtain ⟨e2,_⟩:=hok' b _ (un.frzs b _ _ z)
      rw [ha] at e; cases e
      exact e2
     ·cases q
   obtain ⟨more,hm⟩:=un.tbls T _ H_T
   have hT':=hok' T _ hm
   refine ⟨rfl,⟨fun b o e=>?_,fun b o e=>?_⟩,os,bare⟩
   ·by_cases nb:b=T
    ·subst nb
     rw [hT] at e; cases e
     exact .inr (.inl ⟨(C.tab hT).isCodeTable,rfl,#[],more,rfl,hT'⟩)
    ·exact .inl (fin b o nb e)
   ·by_cases nb:b=T
    ·subst nb; exact ⟨_,hT'⟩
    ·exact ⟨o,fin b o nb e⟩
theorem zPD {l:W.OpenLaw}{q:Program}{loose:List Str}{XP:(Str→Option Value)→Heap→Prop}{YP:World→Heap→Prop}{d dl:DefRec}{K:Params→W.Frag}{L:Nat} (hn:l.most=some 63) (hdf:d.params.defaults=[]) (hr:Room L callerA)
  (hY:∀ (w:World) (h:Heap),YP w h→(K w.params).In h) (hrec:(PyProof.Rows.recsOf q).find? (fun e=>e.name == lamD)=some dl) (hTb:∀ w:World,∃ c T,W.tabIn (K w.params) lamD=some (c,T)∧(K w.params).lookup T=none)
  (F:∀ (w:World) (mg:Str→Option Value) (fa c T:Addr) (h:Heap),(K w.params).In h→h.Ns mainGlobals mg→mg d.name=some (.ref fa)→W.tabIn (K w.params) lamD=some (c,T) →
   ∃ fd:FuncData,(∀ (s:Shared) (u:Value),BindsTo s fd ⟨[u],[]⟩ [("_law_script",u)])∧∀ base:Heap,(K w.params).In base→base.Ns mainGlobals mg→W.CodeHd base c T→base.BuiltinsAt mg T→mainGlobals≠T→FnOk l.prog w (K w.params) mg base (CX1 l.prog w) L fa fd ["_law_script"] (spL (K w.params))) :
  W.WalkO q loose XP YP l.row.toRowW d [] (fun f vs=>PySem.call f vs):=by
 refine Att.attach_call hn hdf fun w s₀ s₁ mg mb fa o pm cd doc a vs ns G Y ho hd hcd hmg hobj hints hlen hg=>?_
 have KX:=hY w _ Y
 obtain ⟨c,T,tab,nK⟩:=hTb w
 obtain ⟨C,hT⟩:=W.tab_of G.T KX hrec tab
 obtain ⟨bm,ob,b1,b2,b3,b4,b5,b6⟩:=G.T.bmain
 have hgT:mainGlobals≠T:=fun q=>by
  obtain ⟨o,es,ep,e,hd,_⟩:=G.T.g
  rw [q,hT] at e; cases e; cases hd
 have hbT:bm≠T:=fun q=>by
  rw [q,hT] at b3; cases b3; cases b4
 have hbG:bm≠mainGlobals:=fun q=>by
  obtain ⟨o,es,ep,e,hd,_⟩:=G.T.g
  rw [q,e] at b3; cases b3; rw [hd] at b6; cases b6
 obtain ⟨fd,hb,hF⟩:=F w mg fa c T _ KX G.T.g hmg tab
 exact zLu KX G.T.g G.T.b G.T.builtins G.T.nolimit hg hobj hints (Nat.le_trans hlen (by decide)) hr C hT ⟨bm,ob,b1,b2,hbG,hbT,b3,b4,b5,b6⟩ nK (fun base kb nb C' B'=>hF base kb nb C' B' hgT) hb fun H hS h1=>⟨a,ns,T,c,rfl,hS,hlen,h1,tab,fun _=>rfl⟩
open PySem
theorem def_in {K:W.Frag}{mg:Str→Option Value}{ar:Str→Option Nat}{x:Str}{st:Stmt}{fa:Addr}{fd:FuncData}{N ps:List Str}{fuel np nN:Nat}{b:CLL→CS} (F:Fun K x x st fa fd) (m:mg x=some (.ref fa)) (hb:zBN K fd ps []) (hs:fnOk N ps (zA1 st)=true)
  (hc:(fun cl:CLL=>cSts ar cl fuel ⟨N,(zA1 st).names,some x⟩ (zAc st))=fun cl=>some (b cl)) (h1:ps.length=np:=by rfl) (h2:N.length=nN:=by rfl):zIG K mg ar x (np,nN,b) :=
 ⟨st,fa,fd,N,ps,fuel,F,m,hb,hs,h1,h2,fun cl=>congrFun hc cl⟩
noncomputable def zGl (mg:Str→Option Value):List Str→Prop
 | []=>True
 | x::r=>mg x=none∧zGl mg r
theorem zGl.mem {mg:Str→Option Value}:∀ {l:List Str},zGl mg l→∀ x∈l,mg x=none
 | [],_,x,h=>by cases h
 | e::r,⟨a,b⟩,x,h=>by
  rcases List.mem_cons.mp h with q | q
  ·subst q; exact a
  ·exact b.mem x q
open PySem PySem.Spec PyProof.Rows
noncomputable def zNc:List Value→List Str→Bool
 | [],[]=>true
 | .str x _::r,y::t=>decide (x=y)&&zNc r t
 | _,_=>false
noncomputable def ktupB (K:W.Frag) (p:Addr) (ts:List Str):Bool:=match K.lookup p with
 | some ⟨.type c,_,.seq its _,_⟩=>c == "tuple"&&decide (its.size≤sizeLine)&&zNc its.toList ts
 | _=>false
noncomputable def zJd (K:W.Frag):List DictEntry→List (Str × List Str)→Bool
 | [],[]=>true
 | ⟨_,.str x _,.ref p⟩::es,q::qs=>decide (x=q.1)&&ktupB K p q.2&&zJd K es qs
 | _,_=>false
noncomputable def fmB (K:W.Frag) (a:Addr):Bool:=match K.lookup a with
 | some ⟨.type c,none,.dict es _,sl⟩=>c == "dict"&&sl.isEmpty&&(a != sysModules)&&zJd K es.toList zCY
 | _=>false
noncomputable def fmHs (K:W.Frag) (a:Addr):List Int:=match K.lookup a with
 | some ⟨_,_,.dict es _,_⟩=>es.toList.map (·.hash)
 | _=>[]
theorem zFd:∀ {us:List Value}{ts:List Str},zNc us ts=true→Vals (ts.map V.str) us
 | [],[],_=>.nil
 | [],_::_,h=>by cases h
 | .str x t::r,y::ts,h=>by
  unfold zNc at h
  rw [Bool.and_eq_true,decide_eq_true_eq] at h
  obtain ⟨rfl,h2⟩:=h
  exact .cons ⟨t,rfl⟩ (zFd h2)
 | u::r,[],h=>by cases u <;> cases h
theorem ktup_of {K:W.Frag}{p:Addr}{ts:List Str} (h:ktupB K p ts=true):KTup K p ts:=by
 unfold ktupB at h
 split at h
 ·rename_i c d its n sl e
  simp only [Bool.and_eq_true,beq_iff_eq,decide_eq_true_eq] at h
  obtain ⟨⟨rfl,h1⟩,h2⟩:=h
  exact ⟨_,its,n,e,rfl,rfl,h1,zFd h2⟩
 ·cases h
noncomputable def kvO:List DictEntry→List (Str × List Str)→List (Key × Value)
 | e::es,q::qs=>(.inr q.1,e.val)::kvO es qs
 | _,_=>[]
theorem fm_go {K:W.Frag}{P:Program}{w:World}:∀ {es:List DictEntry}{qs:List (Str × List Str)},zJd K es qs=true→es.map (·.hash)=qs.map (fun p=>hashStr w p.1) →
  Pairs (zA8 P w) es (kvO es qs)∧(kvO es qs).map (·.1)=qs.map (fun q=>(.inr q.1:Key))∧(∀ e∈es,∃ k,(zA8 P w).is k e.key=true∧e.hash=(zA8 P w).hash k) ∧
  ∀ z,match qs.lookup z with
   | some ts=>∃ p,valueAt (kvO es qs) (.inr z)=some (.ref p)∧KTup K p ts
   | none=>valueAt (kvO es qs) (.inr z)=none
 | [],[],_,_=>⟨.nil,rfl,fun e he=>(by cases he),fun z=>rfl⟩
 | [],_::_,h,_=>by cases h
 | ⟨hs,.str x t,.ref p⟩::es,q::qs,h,hh=>by
  unfold zJd at h
  simp only [Bool.and_eq_true,decide_eq_true_eq] at h
  obtain ⟨⟨rfl,h1⟩,h2⟩:=h
  rw [List.map_cons,List.map_cons] at hh
  have e1:hs=hashStr w q.1:=(List.cons.inj hh).1
  obtain ⟨g1,g2,g3,g4⟩:=fm_go (K:=K) (P:=P) h2 (List.cons.inj hh).2
  refine ⟨.cons (zCw P w q.1 t) rfl g1,?_,fun e he=>?_,fun z=>?_⟩
  ·show _::_=_::_
   rw [g2]
  ·rcases List.mem_cons.mp he with rfl | he
   ·exact ⟨.inr q.1,zCw P w q.1 t,e1⟩
   ·exact g3 e he
  ·rw [show (q::qs).lookup z=if z == q.1 then some q.2 else qs.lookup z from by
    obtain ⟨a,b⟩:=q
    rw [List.lookup_cons]
    cases z == a <;> rfl]
   have v:valueAt (kvO (⟨hs,.str q.1 t,.ref p⟩::es) (q::qs)) (.inr z)=if z=q.1 then some (.ref p) else valueAt (kvO es qs) (.inr z):=by
    show Option.map _ (List.find? _ ((.inr q.1,.ref p)::kvO es qs))=_
    rw [List.find?_cons]
    by_cases hz:z=q.1
    ·subst hz; simp
    ·have:((.inr q.1:Key)=.inr z)=False:=eq_false fun y=>hz (Sum.inr.inj y).symm
     simp only [this,decide_false,if_neg hz]
     rfl
   rw [v]
   by_cases hz:z=q.1
   ·subst hz
    rw [if_pos rfl,if_pos (by simp)]
    exact ⟨p,rfl,ktup_of h1⟩
   ·rw [if_neg hz,if_neg (by simpa using hz)]
    exact g4 z
 | ⟨_,k,v⟩::es,[],h,_=>by cases k <;> cases v <;> cases h
theorem fm_mk (P0:Program) {w:World}{K:W.Frag}{h:Heap}{mg:Str→Option Value} (X:K.In h) (G:h.Ns mainGlobals mg) {a:Addr} (n:W.nsIn K mainGlobals "FORMS"=some (some (.ref a))) (b:fmB K a=true) (hh:fmHs K a=zCY.map fun p=>hashStr w p.1):FmIn w K mg:=by
 have m:=W.mg_of X G n
 unfold fmB at b
 unfold fmHs at hh
 split at b
 ·rename_i c es ep sl e
  rw [e] at hh
  simp only [Bool.and_eq_true,beq_iff_eq,bne_iff_ne] at b
  obtain ⟨⟨⟨rfl,h1⟩,h2⟩,h3⟩:=b
  have sl0:sl=#[]:=by simpa using h1
  have g:=fun P=>fm_go (K:=K) (P:=P) h3 hh
  obtain ⟨_,g2,_,g4⟩:=g P0
  refine ⟨a,_,kvO es.toList zCY,m,by simpa using h2,e,rfl,rfl,fun P h' hp=>?_,g4⟩
  obtain ⟨q1,_,q3,_⟩:=g P
  exact ⟨_,es,ep,hp,⟨rfl,rfl,sl0⟩,rfl,fun e he=>q3 e (Array.mem_toList_iff.mpr he),q1,by rw [g2]; decide +kernel⟩
 ·cases b
noncomputable def AllM (K:W.Frag) (mg:Str→Option Value) (ar:Str→Option Nat):Tbl→Prop
 | []=>True
 | e::r=>(isM e.1=true∨zIG K mg ar e.1 e.2)∧AllM K mg ar r
theorem AllM.mem {K:W.Frag}{mg:Str→Option Value}{ar:Str→Option Nat}:∀ {t:Tbl},AllM K mg ar t→∀ x p,isM x=false→(x,p)∈t→zIG K mg ar x p
 | [],_,x,p,_,h=>by cases h
 | e::r,⟨a,b⟩,x,p,n,h=>by
  rcases List.mem_cons.mp h with q | q
  ·subst q
   rcases a with a | a
   ·rw [show isM x=true from a] at n; cases n
   ·exact a
  ·exact b.mem x p n q
theorem AllM.look {K:W.Frag}{mg:Str→Option Value}{ar:Str→Option Nat}{t:Tbl} (h:AllM K mg ar t) (x:Str) (p:Nat × Nat × (CLL→CS)) (n:isM x=false) (e:t.lookup x=some p):zIG K mg ar x p:=h.mem x p n (zFq e)
open PySem
inductive Tg {γ:Type} (f:γ):Type where
 | mk
noncomputable def rbnd {α β:Type} (r:R α) (f:α→zA2→R β) (_:Tg f):R β:=match r with
 | .bad=>.bad
 | .er c S=>.er c S
 | .ok a S=>f a S
@[simp] theorem zAQ {α β:Type} (a:α) (S:zA2) (f:α→zA2→R β):rbnd (.ok a S) f .mk=f a S:=rfl
@[simp] theorem rbnd_bad {α β:Type} (f:α→zA2→R β):rbnd .bad f .mk=.bad:=rfl
@[simp] theorem zBl {α β:Type} (m:M α) (f:α→M β) (S:zA2):bnd m f S=rbnd (m S) f .mk:=rfl
@[simp] theorem ret_ev {α:Type} (a:α) (S:zA2):ret a S=.ok a S:=rfl
@[simp] theorem bad_ev {α:Type} (S:zA2):(bad:M α) S=.bad:=rfl
noncomputable def rs {α:Type} (r:R α) (f:α→zA2→RS) (_:Tg f):RS:=match r with
 | .bad=>.bad
 | .er _ _=>.bad
 | .ok a S=>f a S
@[simp] theorem zNw {α:Type} (a:α) (S:zA2) (f:α→zA2→RS):rs (.ok a S) f .mk=f a S:=rfl
@[simp] theorem rs_bad {α:Type} (f:α→zA2→RS):rs .bad f .mk=.bad:=rfl
noncomputable def sb (r:RS) (f:CS) (_:Tg f):RS:=match r with
 | .nx ρ S=>f ρ S
 | r=>r
@[simp] theorem zKL (ρ:Env1) (S:zA2) (f:CS):sb (.nx ρ S) f .mk=f ρ S:=rfl
@[simp] theorem sb_rt (d:D) (S:zA2) (f:CS):sb (.rt d S) f .mk=.rt d S:=rfl
@[simp] theorem sb_bk (ρ:Env1) (S:zA2) (f:CS):sb (.bk ρ S) f .mk=.bk ρ S:=rfl
@[simp] theorem sb_ct (ρ:Env1) (S:zA2) (f:CS):sb (.ct ρ S) f .mk=.ct ρ S:=rfl
@[simp] theorem zC4 (a b:CS) (ρ:Env1) (S:zA2):sSeq a b ρ S=sb (a ρ S) b .mk:=rfl
@[simp] theorem sb_er (c:Str) (S:zA2) (f:CS):sb (.er c S) f .mk=.er c S:=rfl
noncomputable def rsX {α:Type} (r:R α) (f:α→zA2→RS) (_:Tg f):RS:=match r with
 | .bad=>.bad
 | .er k S=>.er k S
 | .ok a S=>f a S
@[simp] theorem rsX_ok {α:Type} (a:α) (S:zA2) (f:α→zA2→RS):rsX (.ok a S) f .mk=f a S:=rfl
@[simp] theorem rsX_er {α:Type} (k:Str) (S:zA2) (f:α→zA2→RS):rsX (.er k S) f .mk=.er k S:=rfl
noncomputable def rbX {α β:Type} (r:R α) (f:α→zA2→R β) (_:Tg f):R β:=match r with
 | .ok a S=>f a S
 | _=>.bad
@[simp] theorem rbX_ok {α β:Type} (a:α) (S:zA2) (f:α→zA2→R β):rbX (.ok a S) f .mk=f a S:=rfl
@[simp] theorem cAppX_sv (φ:List D→M D) (ca:CA) (ρ:Env1) (S:zA2):zAt φ ca ρ S=rbX (ca ρ S) φ .mk:=by unfold zAt rbX; cases ca ρ S <;> rfl
@[simp] theorem cIfX_sv (t:CT) (a b:C) (ρ:Env1) (S:zA2):cIfX t a b ρ S=rbX (t ρ S) (fun k S1=>if k then a ρ S1 else b ρ S1) .mk:=by unfold cIfX rbX; cases t ρ S <;> rfl
@[simp] theorem sRetX_sv (c:C) (ρ:Env1) (S:zA2):zC5 c ρ S=rsX (c ρ S) (fun d S'=>.rt d S') .mk:=by unfold zC5 rsX; cases c ρ S <;> rfl
@[simp] theorem sExprX_sv (c:C) (ρ:Env1) (S:zA2):zCQ c ρ S=rsX (c ρ S) (fun _ S'=>.nx ρ S') .mk:=by unfold zCQ rsX; cases c ρ S <;> rfl
@[simp] theorem sAsgX_sv (c:C) (g:G) (ρ:Env1) (S:zA2):zFJ c g ρ S=rsX (c ρ S) (fun d S1=>rs (g d ρ S1) (fun ρ' S2=>.nx ρ' S2) .mk) .mk:=by
 unfold zFJ rsX rs
 cases c ρ S with
 | ok d S1=>dsimp only; cases g d ρ S1 <;> rfl
 | _=>rfl
@[simp] theorem sRaise_ev (c:Str) (ρ:Env1) (S:zA2):zAI c ρ S=.er c S:=rfl
@[simp] theorem sPass_ev (ρ:Env1) (S:zA2):zA3 ρ S=.nx ρ S:=rfl
@[simp] theorem sBrk_ev (ρ:Env1) (S:zA2):sBrk ρ S=.bk ρ S:=rfl
@[simp] theorem sCnt_ev (ρ:Env1) (S:zA2):sCnt ρ S=.ct ρ S:=rfl
@[simp] theorem sRetN_ev (ρ:Env1) (S:zA2):zQc ρ S=.rt .non S:=rfl
@[simp] theorem sRet_ev (c:C) (ρ:Env1) (S:zA2):sRet c ρ S=rs (c ρ S) (fun d S'=>.rt d S') .mk:=by
 unfold sRet rs; cases c ρ S <;> rfl
@[simp] theorem sExpr_ev (c:C) (ρ:Env1) (S:zA2):zGB c ρ S=rs (c ρ S) (fun _ S'=>.nx ρ S') .mk:=by
 unfold zGB rs; cases c ρ S <;> rfl
@[simp] theorem zHN (c:C) (g:G) (ρ:Env1) (S:zA2):sAsg c g ρ S=rs (c ρ S) (fun d S1=>rs (g d ρ S1) (fun ρ' S2=>.nx ρ' S2) .mk) .mk:=by
 unfold sAsg rs
 cases c ρ S with
 | ok d S1=>dsimp only; cases g d ρ S1 <;> rfl
 | _=>rfl
@[simp] theorem zPa (t:CT) (a b:CS) (ρ:Env1) (S:zA2):sIf t a b ρ S=rs (t ρ S) (fun k S'=>if k then a ρ S' else b ρ S') .mk:=by
 unfold sIf rs; cases t ρ S <;> rfl
@[simp] theorem zKP (it:CI) (g:G) (b:CS) (ρ:Env1) (S:zA2):sFor it g b ρ S=rs (it ρ S) (fun p S1=>zBo p.2 g b p.1 ρ S1) .mk:=by
 unfold sFor rs
 cases it ρ S with
 | ok p S1=>obtain ⟨a,b⟩:=p; rfl
 | _=>rfl
@[simp] theorem gN_ev (i:Nat) (d:D) (ρ:Env1) (S:zA2):gN i d ρ S=.ok (ρ.set i (some d)) S:=rfl
noncomputable def mo {α:Type} (o:Option α) (S':α→zA2) (ρ:Env1):R Env1:=match o with
 | some x=>.ok ρ (S' x)
 | none=>.bad
@[simp] theorem gS_ev (co ci:C) (d:D) (ρ:Env1) (S:zA2):gS co ci d ρ S=rbnd (co ρ S) (fun o S1=>rbnd (ci ρ S1) (fun i S2=>mo (oSet o i d S2) (fun x=>x) ρ) .mk) .mk:=by
 unfold gS
 rw [zBl]
 cases co ρ S with
 | bad=>rfl
 | er _ _=>rfl
 | ok o S1 =>
  rw [zAQ,zAQ,zBl]
  cases ci ρ S1 with
  | bad=>rfl
  | er _ _=>rfl
  | ok i S2 =>
   rw [zAQ,zAQ]
   cases h:oSet o i d S2 <;> rfl
@[simp] theorem mo_some {α:Type} (x:α) (f:α→zA2) (ρ:Env1):mo (some x) f ρ=.ok ρ (f x):=rfl
@[simp] theorem gT_ev (gs:List G) (xs:List D) (ρ:Env1) (S:zA2):gT gs (.tup xs) ρ S=gTs gs xs ρ S:=rfl
@[simp] theorem gTs_nil (ρ:Env1) (S:zA2):gTs [] [] ρ S=.ok ρ S:=rfl
@[simp] theorem gTs_cons (g:G) (gs:List G) (x:D) (xs:List D) (ρ:Env1) (S:zA2):gTs (g::gs) (x::xs) ρ S=rbnd (g x ρ S) (fun ρ1 S1=>gTs gs xs ρ1 S1) .mk:=rfl
@[simp] theorem cVar_ev (i:Nat) (ρ:Env1) (S:zA2):cVar i ρ S=match ρ[i]? with | some (some d)=>.ok d S | _=>.bad:=rfl
@[simp] theorem cCon_ev (d:D) (ρ:Env1) (S:zA2):cCon d ρ S=.ok d S:=rfl
@[simp] theorem cBin_ev (o:D→D→M D) (a b:C) (ρ:Env1) (S:zA2):cBin o a b ρ S=rbnd (a ρ S) (fun x S1=>rbnd (b ρ S1) (fun y S2=>o x y S2) .mk) .mk:=rfl
@[simp] theorem cUn_ev (o:D→M D) (a:C) (ρ:Env1) (S:zA2):cUn o a ρ S=rbnd (a ρ S) o .mk:=rfl
@[simp] theorem cArgs_nil (ρ:Env1) (S:zA2):zA0 [] ρ S=.ok [] S:=rfl
@[simp] theorem cArgs_cons (c:C) (cs:List C) (ρ:Env1) (S:zA2):zA0 (c::cs) ρ S=rbnd (c ρ S) (fun x S1=>rbnd (zA0 cs ρ S1) (fun xs S2=>.ok (x::xs) S2) .mk) .mk:=rfl
@[simp] theorem cApp_ev (o:List D→M D) (a:CA) (ρ:Env1) (S:zA2):cApp o a ρ S=rbnd (a ρ S) o .mk:=rfl
@[simp] theorem cTup_ev (a:CA) (ρ:Env1) (S:zA2):cTup a ρ S=rbnd (a ρ S) (fun xs S1=>.ok (.tup xs) S1) .mk:=rfl
@[simp] theorem cLst_ev (a:CA) (ρ:Env1) (S:zA2):cLst a ρ S=rbnd (a ρ S) (fun xs S1=>.ok (.lst S1.length) (S1++[.lst xs])) .mk:=rfl
@[simp] theorem cIf_ev (t:CT) (a b:C) (ρ:Env1) (S:zA2):cIf t a b ρ S=rbnd (t ρ S) (fun k S1=>if k then a ρ S1 else b ρ S1) .mk:=by
 unfold cIf; rw [zBl]
 cases t ρ S with
 | ok k S1=>cases k <;> rfl
 | bad=>rfl
 | er _ _=>rfl
@[simp] theorem cBool_ev (a:C) (ρ:Env1) (S:zA2):zAa a ρ S=rbnd (a ρ S) (fun x S1=>dB x S1) .mk:=rfl
@[simp] theorem dB_ev (b:Bool) (S:zA2):dB (.bl b) S=.ok b S:=rfl
@[simp] theorem cAndV_ev (a b:C) (ρ:Env1) (S:zA2):zDg a b ρ S=rbnd (zAa a ρ S) (fun k S1=>if k then b ρ S1 else .ok (.bl false) S1) .mk:=by
 unfold zDg; rw [zBl]
 cases zAa a ρ S with
 | ok k S1=>cases k <;> rfl
 | bad=>rfl
 | er _ _=>rfl
@[simp] theorem cOrV_ev (a b:C) (ρ:Env1) (S:zA2):cOrV a b ρ S=rbnd (zAa a ρ S) (fun k S1=>if k then .ok (.bl true) S1 else b ρ S1) .mk:=by
 unfold cOrV; rw [zBl]
 cases zAa a ρ S with
 | ok k S1=>cases k <;> rfl
 | bad=>rfl
 | er _ _=>rfl
@[simp] theorem cNotV_ev (a:C) (ρ:Env1) (S:zA2):zOT a ρ S=rbnd (zAa a ρ S) (fun k S1=>.ok (.bl (!k)) S1) .mk:=rfl
@[simp] theorem cAndT_ev (a b:CT) (ρ:Env1) (S:zA2):zK6 a b ρ S=rbnd (a ρ S) (fun k S1=>if k then b ρ S1 else .ok false S1) .mk:=by
 unfold zK6; rw [zBl]
 cases a ρ S with
 | ok k S1=>cases k <;> rfl
 | bad=>rfl
 | er _ _=>rfl
@[simp] theorem cOrT_ev (a b:CT) (ρ:Env1) (S:zA2):cOrT a b ρ S=rbnd (a ρ S) (fun k S1=>if k then .ok true S1 else b ρ S1) .mk:=by
 unfold cOrT; rw [zBl]
 cases a ρ S with
 | ok k S1=>cases k <;> rfl
 | bad=>rfl
 | er _ _=>rfl
@[simp] theorem cNotT_ev (a:CT) (ρ:Env1) (S:zA2):zB3 a ρ S=rbnd (a ρ S) (fun k S1=>.ok (!k) S1) .mk:=rfl
@[simp] theorem cChain_ev (o o':D→D→M D) (a b c:C) (ρ:Env1) (S:zA2):zBJ o o' a b c ρ S=rbnd (a ρ S) (fun x S1=>rbnd (b ρ S1) (fun y S2=>rbnd (o x y S2) (fun z S3=>rbnd (dB z S3) (fun k S4=>if k then rbnd (c ρ S4) (fun w S5=>o' y w S5) .mk else .ok (.bl false) S4) .mk) .mk) .mk) .mk:=by
 unfold zBJ
 rw [zBl]
 cases a ρ S with
 | bad=>rfl
 | er _ _=>rfl
 | ok x S1 =>
  rw [zAQ,zAQ,zBl]
  cases b ρ S1 with
  | bad=>rfl
  | er _ _=>rfl
  | ok y S2 =>
   rw [zAQ,zAQ,zBl]
   cases o x y S2 with
   | bad=>rfl
   | er _ _=>rfl
   | ok z S3 =>
    rw [zAQ,zAQ,zBl]
    cases dB z S3 with
    | bad=>rfl
    | er _ _=>rfl
    | ok k S4=>cases k <;> rfl
@[simp] theorem cTru_ev (a:C) (ρ:Env1) (S:zA2):cTru a ρ S=rbnd (a ρ S) (fun x S1=>dTru x S1) .mk:=rfl
@[simp] theorem dTru_bl (b:Bool) (S:zA2):dTru (.bl b) S=.ok b S:=rfl
@[simp] theorem dTru_int (i:Int) (S:zA2):dTru (.int i) S=.ok (i != 0) S:=rfl
@[simp] theorem dTru_tup (xs:List D) (S:zA2):dTru (.tup xs) S=.ok (!xs.isEmpty) S:=rfl
@[simp] theorem cNoPart_ev (ρ:Env1) (S:zA2):zAs ρ S=.ok none S:=rfl
@[simp] theorem cPart_ev (a:C) (ρ:Env1) (S:zA2):zBp a ρ S=rbnd (a ρ S) (fun x S1=>rbnd (dInt x S1) (fun i S2=>.ok (some i) S2) .mk) .mk:=rfl
@[simp] theorem dInt_ev (i:Int) (S:zA2):dInt (.int i) S=.ok i S:=rfl
@[simp] theorem cSl_ev (o:D→Option Int→Option Int→M D) (a:C) (lo hi:CO) (ρ:Env1) (S:zA2):cSl o a lo hi ρ S=rbnd (a ρ S) (fun x S1=>rbnd (lo ρ S1) (fun l S2=>rbnd (hi ρ S2) (fun h S3=>o x l h S3) .mk) .mk) .mk:=rfl
@[simp] theorem cMeth_ev (T:String) (o:D→List D→M D) (a:C) (as:CA) (ρ:Env1) (S:zA2):zBq T o a as ρ S=rbnd (a ρ S) (fun x S1=>if tyOk T x S1 then rbnd (as ρ S1) (fun xs S2=>o x xs S2) .mk else .bad) .mk:=rfl
@[simp] theorem iSeq_ev (c:C) (ρ:Env1) (S:zA2):iSeq c ρ S=rbnd (c ρ S) (fun x S1=>match x with
 | .tup xs=>.ok (xs,[]) S1
 | .lst n=>match zA9 S1 n with
  | some xs=>.ok (xs,[(n,xs)]) S1
  | none=>.bad
 | .dct n=>match S1[n]? with
  | some (.dk kvs)=>.ok (kvs.map fun p=>kD p.1,[]) (S1.set n (.fk kvs))
  | some (.fk kvs)=>.ok (kvs.map fun p=>kD p.1,[]) S1
  | _=>.bad
 | _=>.bad) .mk:=rfl
@[simp] theorem iRange1_ev (a:CA) (ρ:Env1) (S:zA2):zD9 a ρ S=rbnd (a ρ S) (fun xs S1=>match xs with
 | [.int j]=>if -4611686018427387904≤j∧j<4611686018427387904 then .ok (upD 0 j.toNat,[]) S1 else .bad
 | _=>.bad) .mk:=rfl
@[simp] theorem iRange2_ev (a:CA) (ρ:Env1) (S:zA2):zI4 a ρ S=rbnd (a ρ S) (fun xs S1=>match xs with
 | [.int i,.int j]=>if -4611686018427387904≤i∧i<4611686018427387904∧-4611686018427387904≤j∧j<4611686018427387904 then .ok (upD i (j - i).toNat,[]) S1 else .bad
 | _=>.bad) .mk:=rfl
@[simp] theorem iZipL_ev (a:CA) (ρ:Env1) (S:zA2):zOw a ρ S=rbnd (a ρ S) (fun xs S1=>match xs with
 | [x,y]=>match zsAt S1 x,zsAt S1 y with
  | some ys,some zs=>.ok (zipD ys zs,zBY x ys++zBY y zs) S1
  | _,_=>.bad
 | _=>.bad) .mk:=rfl
@[simp] theorem zPC (n:Nat) (xs:List D):zBY (.lst n) xs=[(n,xs)]:=rfl
@[simp] theorem zPB (ys:List D) (xs:List D):zBY (.tup ys) xs=[]:=rfl
@[simp] theorem zsAt_lst (S:zA2) (n:Nat):zsAt S (.lst n)=zA9 S n:=rfl
@[simp] theorem zsAt_tup (S:zA2) (xs:List D):zsAt S (.tup xs)=some xs:=rfl
@[simp] theorem iEnumT_ev (a:CA) (ρ:Env1) (S:zA2):zJb a ρ S=rbnd (a ρ S) (fun xs S1=>match xs with
 | [.tup ys]=>.ok (zEX ys,[]) S1
 | [.lst n]=>match zA9 S1 n with
  | some ys=>.ok (zEX ys,[(n,ys)]) S1
  | none=>.bad
 | _=>.bad) .mk:=rfl
@[simp] theorem cComp_ev (it:CI) (k:Nat) (js:List Nat) (t:Tgt) (tc:CT) (c:C) (ρ:Env1) (S:zA2):zBe it k js t tc c ρ S=rbnd (it ρ S) (fun p S1=>if p.1.length<lim then rbnd (zDB p.2 t tc c (stE k js ρ) p.1 S1) (fun ys S'=>.ok (.lst S'.length) (S'++[.lst ys])) .mk else .bad) .mk:=rfl
@[simp] theorem cDNew_ev (ρ:Env1) (S:zA2):cDNew ρ S=.ok (.dct S.length) (S++[.dk []]):=rfl
@[simp] theorem cDOne_ev (a b:C) (ρ:Env1) (S:zA2):zOU a b ρ S=rbnd (a ρ S) (fun x S1=>rbnd (b ρ S1) (fun y S2=>match zFT x with
 | some k=>.ok (.dct S2.length) (S2++[.dk [(k,y)]])
 | none=>.bad) .mk) .mk:=rfl
@[simp] theorem oAdd_int (i j:Int) (S:zA2):oAdd (.int i) (.int j) S=.ok (.int (i+j)) S:=rfl
@[simp] theorem oAdd_tup (xs ys:List D) (S:zA2):oAdd (.tup xs) (.tup ys) S=if xs.length+ys.length≤lim then .ok (.tup (xs++ys)) S else .bad:=rfl
@[simp] theorem oInt_ev (g:Int→Int→Int) (i j:Int) (S:zA2):oInt g (.int i) (.int j) S=.ok (.int (g i j)) S:=rfl
@[simp] theorem oMul_int (i j:Int) (S:zA2):oMul (.int i) (.int j) S=if zNX i j then .ok (.int (i*j)) S else .bad:=rfl
@[simp] theorem oMod_int (i j:Int) (S:zA2):oMod (.int i) (.int j) S=if 0<j then .ok (.int (i % j)) S else .bad:=rfl
@[simp] theorem oDiv_int (i j:Int) (S:zA2):oDiv (.int i) (.int j) S=if 0<j∧j<1073741824 then .ok (.int (i / j)) S else .bad:=rfl
@[simp] theorem oPow_int (i j:Int) (S:zA2):oPow (.int i) (.int j) S=if 0≤j∧j≤1000000∧i.natAbs<18446744073709551616 then .ok (.int (i ^ j.toNat)) S else .bad:=rfl
@[simp] theorem oShl_int (i j:Int) (S:zA2):oShl (.int i) (.int j) S=if 0≤j∧j≤1000000∧i.natAbs<18446744073709551616 then .ok (.int (i*2 ^ j.toNat)) S else .bad:=rfl
@[simp] theorem oShr_int (i j:Int) (S:zA2):oShr (.int i) (.int j) S=if 0≤j then .ok (.int (i / 2 ^ j.toNat)) S else .bad:=rfl
@[simp] theorem oNeg_int (i:Int) (S:zA2):oNeg (.int i) S=.ok (.int (-i)) S:=rfl
@[simp] theorem oCmp_int (g:Int→Int→Bool) (i j:Int) (S:zA2):oCmp g (.int i) (.int j) S=.ok (.bl (g i j)) S:=rfl
@[simp] theorem oLt_int (i j:Int) (S:zA2):oLt (.int i) (.int j) S=.ok (.bl (decide (i<j))) S:=rfl
theorem zM6 (i j:Int):PyData.eqv (.int i) (.int j)=decide (i=j):=rfl
@[simp] theorem oEq_int (i j:Int) (S:zA2):oEq (.int i) (.int j) S=.ok (.bl (decide (i=j))) S:=by
 show R.ok (D.bl (PyData.eqv (.int i) (.int j))) S=_
 rw [zM6]
@[simp] theorem oNe_int (i j:Int) (S:zA2):oNe (.int i) (.int j) S=.ok (.bl (!decide (i=j))) S:=by
 show R.ok (D.bl (!PyData.eqv (.int i) (.int j))) S=_
 rw [zM6]
@[simp] theorem oEq_bl (i j:Bool) (S:zA2):oEq (.bl i) (.bl j) S=.ok (.bl (i == j)) S:=by
 show R.ok (D.bl (PyData.eqv (.bool i) (.bool j))) S=_
 cases i <;> cases j <;> rfl
@[simp] theorem oNe_bl (i j:Bool) (S:zA2):oNe (.bl i) (.bl j) S=.ok (.bl (i != j)) S:=rfl
@[simp] theorem oIs_non (x:D) (S:zA2):oIs x .non S=.ok (.bl x.isNon) S:=by cases x <;> rfl
@[simp] theorem oIsNot_non (x:D) (S:zA2):zGJ x .non S=.ok (.bl (!x.isNon)) S:=by cases x <;> rfl
@[simp] theorem oIs_bl (a b:Bool) (S:zA2):oIs (.bl a) (.bl b) S=.ok (.bl (a == b)) S:=rfl
@[simp] theorem oIsNot_bl (a b:Bool) (S:zA2):zGJ (.bl a) (.bl b) S=.ok (.bl (a != b)) S:=rfl
@[simp] theorem fMin_ev (i j:Int) (S:zA2):fMin [.int i,.int j] S=.ok (.int (if j<i then j else i)) S:=rfl
@[simp] theorem fMax_ev (i j:Int) (S:zA2):fMax [.int i,.int j] S=.ok (.int (if j>i then j else i)) S:=rfl
@[simp] theorem fInt_int (i:Int) (S:zA2):fInt [.int i] S=.ok (.int i) S:=rfl
@[simp] theorem fInt_bl (b:Bool) (S:zA2):fInt [.bl b] S=.ok (.int (if b then 1 else 0)) S:=rfl
@[simp] theorem fTuple_tup (xs:List D) (S:zA2):zCr [.tup xs] S=.ok (.tup xs) S:=rfl
@[simp] theorem fLen_tup (xs:List D) (S:zA2):fLen [.tup xs] S=.ok (.int xs.length) S:=rfl
@[simp] theorem fLen_rol (xs:List D) (S:zA2):fLen [.rol xs] S=.ok (.int xs.length) S:=rfl
theorem zOG {n:Nat}{xs:List D}{S:zA2} (h:zA9 S n=some xs):fLen [.lst n] S=.ok (.int xs.length) S:=by
 show (match zA9 S n with | some ys=>R.ok (D.int ys.length) S | none=>.bad)=_
 rw [h]
@[simp] theorem fList_tup (xs:List D) (S:zA2):zOF [.tup xs] S=.ok (.lst S.length) (S++[.lst xs]):=rfl
@[simp] theorem oIx_tup (xs:List D) (j:Int) (S:zA2):oIx (.tup xs) (.int j) S=match atI xs j with | some d=>.ok d S | none=>.bad:=rfl
@[simp] theorem oIx_rol (xs:List D) (j:Int) (S:zA2):oIx (.rol xs) (.int j) S=match atI xs j with | some d=>.ok d S | none=>.bad:=rfl
theorem zLh {n:Nat}{xs:List D}{S:zA2} (h:zA9 S n=some xs) (j:Int):oIx (.lst n) (.int j) S=match atI xs j with | some d=>.ok d S | none=>.bad:=by
 show (match zA9 S n,D.int j with | some xs,.int j=>(match atI xs j with | some d=>R.ok d S | none=>.bad) | _,_=>.bad)=_
 rw [h]
@[simp] theorem oSl_tup (xs:List D) (lo hi:Option Int) (S:zA2):oSl (.tup xs) lo hi S=.ok (.tup (cutD xs lo hi)) S:=rfl
@[simp] theorem atI_0 {α:Type} (x:α) (xs:List α):atI (x::xs) 0=some x:=zEF rfl
@[simp] theorem atI_1 {α:Type} (x y:α) (xs:List α):atI (x::y::xs) 1=some y:=zEF rfl
@[simp] theorem atI_2 {α:Type} (x y z:α) (xs:List α):atI (x::y::z::xs) 2=some z:=zEF rfl
@[simp] theorem atI_3 {α:Type} (x y z w:α) (xs:List α):atI (x::y::z::w::xs) 3=some w:=zEF rfl
structure Kp (P:Nat→Prop) (S S':zA2):Prop where
 le:S.length≤S'.length
 eq:∀ j,j<S.length→¬ P j→S'[j]?=S[j]?
noncomputable abbrev Ex:zA2→zA2→Prop:=Kp fun _=>False
theorem Kp.refl (P:Nat→Prop) (S:zA2):Kp P S S:=⟨Nat.le_refl _,fun _ _ _=>rfl⟩
theorem Kp.trans {P:Nat→Prop}{S S1 S2:zA2} (a:Kp P S S1) (b:Kp P S1 S2):Kp P S S2:=⟨Nat.le_trans a.le b.le,fun j h n=>(b.eq j (Nat.lt_of_lt_of_le h a.le) n).trans (a.eq j h n)⟩
theorem zB0 (S T:zA2):Ex S (S++T):=⟨by simp,fun j h _=>List.getElem?_append_left h⟩
theorem kp_set {i:Nat} (S:zA2) (o:O):Kp (·=i) S (S.set i o):=⟨by simp,fun j h n=>List.getElem?_set_ne fun z=>n z.symm⟩
theorem Kp.at {P:Nat→Prop}{S S':zA2} (h:Kp P S S') {j:Nat}{o:O} (e:S[j]?=some o) (n:¬ P j):S'[j]?=some o:=by
 rw [h.eq j (List.getElem?_eq_some_iff.mp e).1 n]; exact e
theorem zBG {S:zA2}{n:Nat}{xs:List D} (h:zA9 S n=some xs):S[n]?=some (.lst xs):=by
 unfold zA9 at h
 split at h
 ·simp_all
 ·cases h
theorem zFS {S:zA2}{n:Nat}{xs:List D} (h:S[n]?=some (.lst xs)):zA9 S n=some xs:=by unfold zA9; rw [h]
theorem Kp.lst {P:Nat→Prop}{S S':zA2} (h:Kp P S S') {j:Nat}{xs:List D} (e:zA9 S j=some xs) (n:¬ P j):zA9 S' j=some xs:=zFS (h.at (zBG e) n)
theorem zO9 {S:zA2}{n:Nat}{xs:List D} (h:zA9 S n=some xs):n<S.length:=(List.getElem?_eq_some_iff.mp (zBG h)).1
@[simp] theorem zAp (S:zA2) (xs:List D):zA9 (S++[.lst xs]) S.length=some xs:=zFS (by rw [List.getElem?_append_right (Nat.le_refl _),Nat.sub_self]; rfl)
theorem zCW {S T:zA2}{n:Nat}{xs:List D} (h:zA9 S n=some xs):zA9 (S++T) n=some xs:=(zB0 S T).lst h fun z=>z
theorem zLr {S:zA2}{n:Nat}{xs ys:List D} (h:zA9 S n=some xs):zA9 (S.set n (.lst ys)) n=some ys:=zFS (List.getElem?_set_self (zO9 h))
theorem zN6 {S:zA2}{n:Nat}{xs:List D} (h:zA9 S n=some xs):tyOk "list" (.lst n) S=true:=by
 show (decide ("list" = "list")&&(zA9 S n).isSome)=true
 rw [h]; rfl
theorem zO7 {S:zA2}{n:Nat}{ys:List D} (h:zA9 S n=some ys) (g:List D→List D→Option (List D × D)) (xs:List D):zE2 g (.lst n) xs S=match g ys xs with | some p=>.ok p.2 (S.set n (.lst p.1)) | none=>.bad:=by
 unfold zE2
 dsimp only
 rw [zBG h]
 dsimp only
 cases g ys xs with
 | none=>rfl
 | some p=>rfl
@[simp] theorem gAppend_ev (ys:List D) (x:D):zDa ys [x]=if ys.length<lim then some (ys++[x],.non) else none:=rfl
@[simp] theorem gInsert_ev (ys:List D) (i:Int) (x:D):zFW ys [.int i,x]=if ys.length<1000∧0≤i∧i.toNat≤ys.length then some (ys.take i.toNat++x::ys.drop i.toNat,.non) else none:=rfl
theorem zQN (S:zA2):okW [] S:=fun p h=>by cases h
theorem zQM {S:zA2}{n:Nat}{xs:List D} (h:zA9 S n=some xs):okW [(n,xs)] S:=fun p hp=>by
 simp at hp; subst hp; exact h
theorem zLs {w:zBM}{g:G}{b:CS}:∀ (items:List D) (P:Nat→Env1→zA2→Prop) {ρ:Env1}{S:zA2} (k:Nat),(∀ i ρ S,P i ρ S→okW w S)→P k ρ S →
  (∀ i d ρ S,items[i]?=some d→P (k+i) ρ S→∃ ρ1 S1,g d ρ S=.ok ρ1 S1∧∃ ρ2 S2,(b ρ1 S1=.nx ρ2 S2∨b ρ1 S1=.ct ρ2 S2)∧P (k+i+1) ρ2 S2)→∃ ρ' S',zBo w g b items ρ S=.nx ρ' S'∧P (k+items.length) ρ' S'
 | [],P,ρ,S,k,hw,h0,hs=>⟨ρ,S,by unfold zBo; rw [if_pos (hw k ρ S h0)],by simpa using h0⟩
 | d::ds,P,ρ,S,k,hw,h0,hs=>by
  obtain ⟨ρ1,S1,e1,ρ2,S2,e2,p2⟩:=hs 0 d ρ S rfl (by simpa using h0)
  obtain ⟨ρ',S',e3,p3⟩:=zLs ds P (k+1) hw (by simpa using p2) (fun i d' ρ S hi hp=>by
   obtain ⟨ρ1,S1,q1,ρ2,S2,q2,q3⟩:=hs (i+1) d' ρ S (by exact hi) (by rw [show k+(i+1)=k+1+i by lia]; exact hp)
   exact ⟨ρ1,S1,q1,ρ2,S2,q2,by rw [show k+1+i+1=k+(i+1)+1 by lia]; exact q3⟩)
  refine ⟨ρ',S',?_,by rw [List.length_cons,show k+(ds.length+1)=k+1+ds.length by lia]; exact p3⟩
  unfold zBo
  rw [if_pos (hw k ρ S h0),e1]
  dsimp only
  rcases e2 with e2 | e2
  ·rw [e2]; exact e3
  ·rw [e2]; exact e3
inductive TurnE (r:RS) (P:Env1→zA2→Prop):Prop
 | mk (ρ2:Env1) (S2:zA2) (h:r=.nx ρ2 S2∨r=.ct ρ2 S2) (p:P ρ2 S2)
inductive TurnR (g:G) (b:CS) (d:D) (ρ:Env1) (S:zA2) (P:Env1→zA2→Prop):Prop
 | mk (ρ1:Env1) (S1:zA2) (e:g d ρ S=.ok ρ1 S1) (t:TurnE (b ρ1 S1) P)
inductive LoopR (r:RS) (P:Env1→zA2→Prop):Prop
 | mk (ρ':Env1) (S':zA2) (e:r=.nx ρ' S') (p:P ρ' S')
theorem zOa {w:zBM}{g:G}{b:CS}{items:List D} (P:Nat→Env1→zA2→Prop) {ρ:Env1}{S:zA2} (hw:∀ i ρ S,P i ρ S→okW w S) (h0:P 0 ρ S)
  (hs:∀ i d ρ S,items[i]?=some d→P i ρ S→TurnR g b d ρ S (P (i+1))):LoopR (zBo w g b items ρ S) (P items.length):=by
 obtain ⟨ρ',S',e,p⟩:=zLs items P 0 hw h0 (fun i d ρ S hi hp=>by
  obtain ⟨ρ1,S1,q1,ρ2,S2,q2,q3⟩:=hs i d ρ S hi (by simpa using hp)
  exact ⟨ρ1,S1,q1,ρ2,S2,q2,by simpa using q3⟩)
 exact ⟨ρ',S',e,by simpa using p⟩
inductive CompR (m:R (List D)) (r:List D) (P:zA2→Prop):Prop
 | mk (S':zA2) (e:m=.ok r S') (p:P S')
theorem zG4 {α:Type} (e:α→D) {w:zBM}{t:Tgt}{tc:CT}{c:C}{ρ0:Env1} (P:zA2→Prop) (hw:∀ S,P S→okW w S) (p:α→Bool) (f:α→D):∀ (l:List α) {S:zA2},P S →
  (∀ a∈l,∀ S,P S→∃ ρ1,zHq t (e a) ρ0=some ρ1∧∃ S1,tc ρ1 S=.ok (p a) S1∧(p a=false→P S1)∧(p a=true→∃ S2,c ρ1 S1=.ok (f a) S2∧P S2))→CompR (zDB w t tc c ρ0 (l.map e) S) ((l.filter p).map f) P
 | [],S,h0,hs=>⟨S,by rw [List.map_nil]; unfold zDB; rw [if_pos (hw S h0)]; rfl,h0⟩
 | d::ds,S,h0,hs=>by
  obtain ⟨ρ1,e1,S1,e2,hf,ht⟩:=hs d (by simp) S h0
  rw [List.map_cons]
  unfold zDB
  rw [if_pos (hw S h0),e1]
  dsimp only
  rw [zBl,e2,zAQ]
  cases hp:p d with
  | false =>
   obtain ⟨S',e3,h3⟩:=zG4 e P hw p f ds (hf hp) fun d' hd=>hs d' (by simp [hd])
   exact ⟨S',by rw [if_neg Bool.false_ne_true,e3,List.filter_cons,hp]; rfl,h3⟩
  | true =>
   obtain ⟨S2,e4,h4⟩:=ht hp
   obtain ⟨S',e3,h3⟩:=zG4 e P hw p f ds h4 fun d' hd=>hs d' (by simp [hd])
   exact ⟨S',by rw [if_pos rfl,zBl,e4,zAQ,zBl,e3,zAQ,List.filter_cons,hp]; rfl,h3⟩
theorem zMk {α:Type} (e:α→D) {w:zBM}{t:Tgt}{tc:CT}{c:C}{ρ0:Env1}{S:zA2} (hw:okW w S) (p:α→Bool) (f:α→D) (l:List α)
  (hs:∀ a∈l,∃ ρ1,zHq t (e a) ρ0=some ρ1∧tc ρ1 S=.ok (p a) S∧(p a=true→c ρ1 S=.ok (f a) S)):zDB w t tc c ρ0 (l.map e) S=.ok ((l.filter p).map f) S:=by
 obtain ⟨S',e1,h⟩:=zG4 e (fun S'=>S'=S) (fun S' z=>z▸hw) p f l rfl (fun a ha S' z=>by
  subst z
  obtain ⟨ρ1,q1,q2,q3⟩:=hs a ha
  exact ⟨ρ1,q1,S',q2,fun _=>rfl,fun z=>⟨S',q3 z,rfl⟩⟩)
 rw [e1,h]
@[simp] theorem bindT_one (d:D) (ρ:Env1):zHq .one d ρ=some (ρ.set 0 (some d)):=rfl
@[simp] theorem bindT_two (x y:D) (ρ:Env1):zHq (.many 2) (.tup [x,y]) ρ=some ((ρ.set 0 (some x)).set 1 (some y)):=rfl
@[simp] theorem stE_ev (k:Nat) (js:List Nat) (ρ:Env1):stE k js ρ=List.replicate k none++js.map fun j=>(ρ[j]?).getD none:=rfl
theorem zKR {np nN:Nat}{b:CS}{ds:List D}{S:zA2} (h:ds.length=np):runF np nN b ds S=match b (zCJ nN ds) S with
 | .nx _ S'=>.ok .non S'
 | .rt d S'=>.ok d S'
 | .er c S'=>.er c S'
 | _=>.bad:=by
 unfold runF
 rw [if_pos h]
 all_goals (cases b (zCJ nN ds) S <;> rfl)
theorem zKQ {np nN:Nat}{b:CS}{ds:List D}{S S':zA2}{d:D} (h:ds.length=np) (e:b (zCJ nN ds) S=.rt d S'):runF np nN b ds S=.ok d S':=by rw [zKR h,e]
theorem zPd {np nN:Nat}{b:CS}{ds:List D}{S S':zA2}{c:Str} (h:ds.length=np) (e:b (zCJ nN ds) S=.er c S'):runF np nN b ds S=.er c S':=by rw [zKR h,e]
open PySem
noncomputable def plain:Nat→D→Bool
 | 0,_=>false
 | n+1,d=>match d with
  | .int _=>true
  | .non=>true
  | .str x=>PyData.strOk x
  | .tup xs=>xs.all (plain n)
  | _=>false
noncomputable def pdat:Nat→D→PyData
 | 0,_=>.none
 | n+1,d=>match d with
  | .int i=>.int i
  | .str x=>.str x
  | .tup xs=>.tuple (xs.map (pdat n))
  | _=>.none
theorem zGM {α β:Type}{f:α→Option β}{g:α→β}{l:List α} (h:∀ x∈l,f x=some (g x)):l.mapM f=some (l.map g):=by
 induction l with
 | nil=>rfl
 | cons a r ih =>
  rw [List.mapM_cons,h a (by simp),ih fun x hx=>h x (by simp [hx])]
  rfl
theorem zFf:∀ {n:Nat}{d:D} (S:zA2),plain n d=true→snap n S d=some (pdat n d)
 | 0,d,S,h=>by cases h
 | n+1,d,S,h=>by
  unfold plain at h
  unfold snap pdat
  cases d with
  | int i=>rfl
  | non=>rfl
  | str x=>dsimp only at h ⊢; rw [if_pos h]
  | tup xs =>
   dsimp only at h ⊢
   rw [zGM fun x hx=>zFf S (List.all_eq_true.mp h x hx)]
   rfl
  | _=>cases h
theorem zDd {n:Nat} (ih:∀ d e,plain n d=true→plain n e=true→(PyData.eqv (pdat n d) (pdat n e)=true↔d=e)):∀ (xs ys:List D),xs.all (plain n)=true→ys.all (plain n)=true→(PyData.eqvAll (xs.map (pdat n)) (ys.map (pdat n))=true↔xs=ys)
 | [],[],_,_=>by simp [PyData.eqvAll]
 | [],y::ys,_,_=>by simp [PyData.eqvAll]
 | x::xs,[],_,_=>by simp [PyData.eqvAll]
 | x::xs,y::ys,h1,h2=>by
  rw [List.all_cons,Bool.and_eq_true] at h1 h2
  show (PyData.eqv (pdat n x) (pdat n y)&&PyData.eqvAll (xs.map (pdat n)) (ys.map (pdat n)))=true↔_
  rw [Bool.and_eq_true,ih x y h1.1 h2.1,zDd ih xs ys h1.2 h2.2,List.cons.injEq]
theorem zH6:∀ (n:Nat) (d e:D),plain n d=true→plain n e=true→(PyData.eqv (pdat n d) (pdat n e)=true↔d=e)
 | 0,d,e,h,_=>by cases h
 | n+1,d,e,h1,h2=>by
  unfold pdat
  cases d with
  | int i =>
   cases e with
   | int j=>simp [PyData.eqv]
   | non=>simp [PyData.eqv]
   | str y=>simp [PyData.eqv]
   | tup ys=>simp [PyData.eqv]
   | _=>cases h2
  | non =>
   cases e with
   | int j=>simp [PyData.eqv]
   | non=>simp [PyData.eqv]
   | str y=>simp [PyData.eqv]
   | tup ys=>simp [PyData.eqv]
   | _=>cases h2
  | str x =>
   cases e with
   | int j=>simp [PyData.eqv]
   | non=>simp [PyData.eqv]
   | str y=>simp [PyData.eqv]
   | tup ys=>simp [PyData.eqv]
   | _=>cases h2
  | tup xs =>
   cases e with
   | int j=>simp [PyData.eqv]
   | non=>simp [PyData.eqv]
   | str y=>simp [PyData.eqv]
   | tup ys =>
    show PyData.eqvAll (xs.map (pdat n)) (ys.map (pdat n))=true↔_
    rw [zDd (zH6 n) xs ys h1 h2]
    simp
   | _=>cases h2
  | _=>cases h1
noncomputable def eqB {α:Type} (x y:α):Bool:=@decide (x=y) (Classical.propDecidable _)
theorem zM7 {α:Type}{x y:α}:eqB x y=true↔x=y:=@decide_eq_true_iff _ (Classical.propDecidable _)
@[simp] theorem zOJ {α:Type} (x:α):eqB x x=true:=zM7.mpr rfl
theorem zOW {a b:Bool} (h:a=true↔b=true):a=b:=by simp_all
theorem zIP {S:zA2}{k:Nat}{xs:List D} (h:zA9 S k=some xs) (hp:xs.all (plain 39)=true):snap 40 S (.lst k)=some (.list (xs.map (pdat 39))):=by
 show (match zA9 S k with | some xs=>(xs.mapM (snap 39 S)).map PyData.list | none=>none)=_
 rw [h]
 dsimp only
 rw [zGM (g:=pdat 39) fun x hx=>zFf S (List.all_eq_true.mp hp x hx)]
 rfl
theorem oNe_lst {S:zA2}{a b:Nat}{xs ys:List D} (h1:zA9 S a=some xs) (h2:zA9 S b=some ys) (p1:xs.all (plain 39)=true) (p2:ys.all (plain 39)=true):oNe (.lst a) (.lst b) S=.ok (.bl (!eqB xs ys)) S:=by
 unfold oNe
 dsimp only
 rw [zIP h1 p1,zIP h2 p2]
 dsimp only
 rw [zOW ((show PyData.eqv (.list (xs.map (pdat 39))) (.list (ys.map (pdat 39)))=true↔xs=ys from zDd (zH6 39) xs ys p1 p2).trans zM7.symm)]
@[simp] theorem zOu (i:Int) (S:zA2):zAG [.int i,.ty "bool"] S=.ok (.bl false) S:=rfl
@[simp] theorem zPn (i:Int) (S:zA2):zAG [.int i,.ty "int"] S=.ok (.bl true) S:=rfl
@[simp] theorem zMZ (i:Int) (S:zA2):zAG [.int i,.ty "tuple"] S=.ok (.bl false) S:=rfl
@[simp] theorem zOt (i:Int) (S:zA2):zAG [.int i,.ty "list"] S=.ok (.bl false) S:=rfl
@[simp] theorem zN1 (b:Bool) (S:zA2):zAG [.bl b,.ty "bool"] S=.ok (.bl true) S:=rfl
@[simp] theorem zOv (b:Bool) (S:zA2):zAG [.bl b,.ty "int"] S=.ok (.bl true) S:=rfl
@[simp] theorem zLJ (b:Bool) (S:zA2):zAG [.bl b,.ty "tuple"] S=.ok (.bl false) S:=rfl
@[simp] theorem zN0 (b:Bool) (S:zA2):zAG [.bl b,.ty "list"] S=.ok (.bl false) S:=rfl
@[simp] theorem zJa  (S:zA2):zAG [.non,.ty "bool"] S=.ok (.bl false) S:=rfl
@[simp] theorem zJN  (S:zA2):zAG [.non,.ty "int"] S=.ok (.bl false) S:=rfl
@[simp] theorem zI2  (S:zA2):zAG [.non,.ty "tuple"] S=.ok (.bl false) S:=rfl
@[simp] theorem zJ9  (S:zA2):zAG [.non,.ty "list"] S=.ok (.bl false) S:=rfl
@[simp] theorem zOs (x:Str) (S:zA2):zAG [.str x,.ty "bool"] S=.ok (.bl false) S:=rfl
@[simp] theorem zPm (x:Str) (S:zA2):zAG [.str x,.ty "int"] S=.ok (.bl false) S:=rfl
@[simp] theorem zMY (x:Str) (S:zA2):zAG [.str x,.ty "tuple"] S=.ok (.bl false) S:=rfl
@[simp] theorem zOr (x:Str) (S:zA2):zAG [.str x,.ty "list"] S=.ok (.bl false) S:=rfl
@[simp] theorem zLI (xs:List D) (S:zA2):zAG [.tup xs,.ty "bool"] S=.ok (.bl false) S:=rfl
@[simp] theorem zMX (xs:List D) (S:zA2):zAG [.tup xs,.ty "int"] S=.ok (.bl false) S:=rfl
@[simp] theorem zKh (xs:List D) (S:zA2):zAG [.tup xs,.ty "tuple"] S=.ok (.bl true) S:=rfl
@[simp] theorem zLH (xs:List D) (S:zA2):zAG [.tup xs,.ty "list"] S=.ok (.bl false) S:=rfl
open PySem
theorem zMf (xs:List D) {k:Int} (h0:0≤k):cutD xs none (some k)=xs.take k.toNat:=by
 unfold cutD
 rw [show k=((k.toNat:Nat):Int) by lia,HT.sIx_nat,HT.sIx_none,Nat.sub_zero,List.drop_zero,Int.toNat_natCast]
 by_cases h:k.toNat≤xs.length
 ·rw [Nat.min_eq_left h]
 ·rw [Nat.min_eq_right (by lia),List.take_length,List.take_of_length_le (by lia)]
theorem zFN {S:zA2}{n m:Nat}{xs ys:List D} (h1:zA9 S n=some xs) (h2:zA9 S m=some ys) (h:xs.length+ys.length≤lim):oAdd (.lst n) (.lst m) S=.ok (.lst S.length) (S++[.lst (xs++ys)]):=by
 show (match S[n]?,S[m]? with | some (O.lst xs),some (O.lst ys)=>(if xs.length+ys.length≤lim then R.ok (D.lst S.length) (S++[O.lst (xs++ys)]) else .bad) | _,_=>.bad)=_
 rw [zBG h1,zBG h2]
 dsimp only
 rw [if_pos h]
open PySem PySem.Spec PyProof.Rows
noncomputable def zPG (K:W.Frag):Bool:=match W.tabIn K lamD with
 | some (_,T)=>(K.lookup T).isNone
 | none=>false
theorem zN9 {K:W.Frag} (h:zPG K=true):∃ c T,W.tabIn K lamD=some (c,T)∧K.lookup T=none:=by
 unfold zPG at h
 split at h
 ·rename_i c T e
  exact ⟨c,T,e,Option.isNone_iff_eq_none.mp h⟩
 ·cases h
theorem walk_evS {l:W.OpenLaw}{q:Program}{loose:List Str}{XP:(Str→Option Value)→Heap→Prop}{YP:World→Heap→Prop}{d:DefRec}{K:Params→W.Frag}{L:Nat} (hn:l.most=some 63) (hdf:d.params.defaults=[]) (hr:Room L callerA)
  (hY:∀ (w:World) (h:Heap),YP w h→(K w.params).In h) (hrec:((PyProof.Rows.recsOf q).find? (fun e=>e.name == lamD)).isSome=true) (hTb:∀ w:World,zPG (K w.params)=true)
  (F:∀ (w:World) (mg:Str→Option Value) (fa c T:Addr) (h:Heap),(K w.params).In h→h.Ns mainGlobals mg→mg d.name=some (.ref fa)→W.tabIn (K w.params) lamD=some (c,T) →
   ∃ fd:FuncData,(∀ (s:Shared) (u:Value),BindsTo s fd ⟨[u],[]⟩ [("_law_script",u)])∧∀ base:Heap,(K w.params).In base→base.Ns mainGlobals mg→W.CodeHd base c T→base.BuiltinsAt mg T→mainGlobals≠T→FnOk l.prog w (K w.params) mg base (CX1 l.prog w) L fa fd ["_law_script"] (spL (K w.params))) :
  W.WalkO q loose XP YP l.row.toRowW d [] (fun f vs=>PySem.call f vs):=by
 obtain ⟨dl,hdl⟩:=Option.isSome_iff_exists.mp hrec
 exact zPD hn hdf hr hY hdl (fun w=>zN9 (hTb w)) F
noncomputable def exKs (K:W.Frag):Bool:=xoL.all fun x=>match exG K x with
 | some C=>W.excIn K C VEs "ValueError.__new__"
 | none=>false
noncomputable def exNet (K:W.Frag) (C:Addr):Bool:=xoL.all fun x=>match exG K x with
 | some D=>W.exmOne K (.ref D) (.ref C) == some true
 | none=>false
theorem ex_mg {K:W.Frag}{h:Heap}{mg:Str→Option Value} (X:K.In h) (G:h.Ns mainGlobals mg) {x:Str}{D:Addr} (e:exG K x=some D):mg x=some (.ref D):=W.mg_of X G (zPs e)
theorem zM4 {K:W.Frag}{h:Heap}{mg:Str→Option Value} (X:K.In h) (G:h.Ns mainGlobals mg) (hk:exKs K=true):∀ x∈excL,∃ C,mg x=some (.ref C)∧ExcK K C:=fun x hx=>by
 have q:=List.all_eq_true.mp hk x hx
 split at q
 ·rename_i C e; exact ⟨C,ex_mg X G e,q⟩
 ·cases q
theorem zOI {K:W.Frag}{h:Heap}{mg:Str→Option Value}{C:Addr} (X:K.In h) (G:h.Ns mainGlobals mg) (hk:exNet K C=true):∀ x∈xoL,∀ D,exG K x=some D→mg x=some (.ref D)∧W.exmOne K (.ref D) (.ref C)=some true:=fun x hx D e=>by
 have q:=List.all_eq_true.mp hk x hx
 rw [e] at q
 exact ⟨ex_mg X G e,beq_iff_eq.mp q⟩
theorem exm_of {K:W.Frag}{h:Heap}{mg:Str→Option Value} (X:K.In h) (G:h.Ns mainGlobals mg) (xk:zFZ K=true):∀ c∈xoL,∃ C,mg c=some (.ref C)∧exG K c=some C:=fun c hc=>by
 obtain ⟨C,e,_⟩:=zCe xk hc
 exact ⟨C,ex_mg X G e,e⟩
theorem zQh {P:Program}{w:World}{K:W.Frag}{mg:Str→Option Value}{base h:Heap}{c y en g:Str}{st:Stmt}{fa C:Addr}{fd:FuncData}{more:List Str}{rest:List Stmt}{p1 p2 p3 p4 p5 p6 p7 q1 q2 q3 q4 q5:Pos}{j:Nat} (X:K.In h) (G:h.Ns mainGlobals mg) (F:Fun K "_law_refused" "_law_refused" st fa fd) (m:mg "_law_refused"=some (.ref fa)) (bi:zBN K fd [c] [])
  (body:zAc st=zPf c y en g p1 p2 p3 p4 p5 p6 p7 q1 q2 q3 q4 q5 j rest) (hs:fnOk (c::y::en::more) [c] (zA1 st)=true) (hl:more.length=1) (hn:(zA1 st).names.lookup y=some .local∧(zA1 st).names.lookup en=some .local∧(zA1 st).names.lookup g=some .globalImplicit)
  (hd:(c == ("__debug__":Str))=false∧(c == ("__classdict__":Str))=false∧(en == ("__debug__":Str))=false∧(en == ("__classdict__":Str))=false∧(g == ("__debug__":Str))=false) (hm:W.nsIn K mainGlobals g=some (some (.ref C))) (hne:("_law_refused":Str)≠lamD)
  (xk:zFZ K=true) (xs:exKs K=true) (xn:exNet K C=true) (xv:W.nsIn K mainGlobals "ValueError"=some none) (hB:MgOk (fun _=>none) mg)
  (hD:DkH w K mg) (hM:∀ m q,mtL.lookup m=some q→zGk P w K mg base m (3*0) (zBn K mg (fun _ _=>.bad) 2))
  (hc:cSts (fun _=>none) (fun _ _ _=>.bad) 60 ⟨c::y::en::more,(zA1 st).names,some "_law_refused"⟩ rest=some rfB):RefH P w K mg base:=by
 have S:=zDb hs
 have xm:=exm_of X G xk
 have v:=W.mg_none_of X G xv
 refine ⟨fun t ht=>?_,xk,xm,v⟩
 have e:=by simpa [rfN] using ht
 subst e
 obtain ⟨a1,a2,a3⟩:=hn
 obtain ⟨b1,b2,b3,b4,b5⟩:=hd
 refine ⟨st,fa,fd,c,y,en,g,_,rest,C,F,m,bi,⟨⟨p1,p2,p3,p4,p5,p6,p7,q1,q2,q3,q4,q5,j,body⟩,S,⟨more,rfl⟩,a1,a2,a3,b1,b2,b3,b4,b5⟩,by simp [hl],W.mg_of X G hm,zOI X G xn,fun cdv A outer s H hr=>?_⟩
 have hX:XOk (cxOf CX0 P w K mg base (c::y::en::more) "_law_refused" (zA1 st) fa cdv A outer s H E0) ⟨c::y::en::more,(zA1 st).names,some "_law_refused"⟩ (fun _=>none) (fun _ _ _=>.bad) 0:={
  calm:=rfl
  N:=rfl
  nd:=S.nd
  gl:=fun x hx=>hx
  loc:=fun x hx=>hx
  cel:=fun x hx=>hx
  fre:=fun x hx=>.inr hx
  fnn:=fun _ x=>rfl
  room:=(hr.deeper _).mono (by omega)
  roomT:=fun z=>absurd (Option.some.inj z) hne
  lam:=fun z=>absurd (Option.some.inj z) hne
  tk:=fun z=>absurd (Option.some.inj z) hne
  rf:=fun z=>absurd (Option.some.inj z) hne
  xk:=xk
  xm:=xm
  xv:=v
  own:=PassesOwn.leaving
  exc:=zM4 X G xs
  blt:=hB
  dkc:=hD.1
  fm:=hD.2.2
  dkn:=fun z=>absurd (Option.some.inj z) hne
  mts:=fun m q e=>⟨hM m q e,fun _ _ z=>absurd rfl z⟩
  frm:=fun _=>⟨rfl,rfl⟩
  fns:=fun _ _ z=>by cases z }
 exact (s_St 60).2 _ _ hX _ _ hc
end L2
namespace My
open PySem L2
noncomputable def zDm (cl:CLL):CS :=
 (sSeq (sRet (zDg (cApp zAG (zA0 [(cVar 0),(cCon (.ty "int"))])) (zOT (cApp zAG (zA0 [(cVar 0),(cCon (.ty "bool"))])))))
  zA3)
noncomputable def zGf (cl:CLL):CS :=
 (sSeq (sRet (zDg (cApp (cl "is_whole") (zA0 [(cVar 0)])) (zBJ (oCmp fun i j=>decide (i≤j)) (oCmp fun i j=>decide (i≤j)) (cCon (.int 0)) (cVar 0) (cCon (.int 1)))))
  zA3)
noncomputable def zFU (cl:CLL):C :=
 (cApp (cl "is_whole") (zA0 [(cVar 0)]))
noncomputable def zCi (cl:CLL):CS :=
 (sSeq (sIf (cOrT (zB3 (cTru (cApp zAG (zA0 [(cVar 2),(cCon (.ty "tuple"))])))) (zAa (cBin oNe (cApp fLen (zA0 [(cVar 2)])) (cCon (.int 4))))) (sSeq (sRet (cCon (.bl false)))
  zA3) zA3)
  (sSeq (sIf (zB3 (cTru (cApp (zCc fun bs=>bs.all id) (zA0 [(zBe (iOr (iSeq (cVar 2)) (iTxt (cVar 2))) 1 [] .one (fun _=>ret true) (zFU cl))])))) (sSeq (sRet (cCon (.bl false)))
  zA3) zA3)
  (sSeq (sIf (zB3 (zIs (oCmp fun i j=>decide (i≤j)) oLt oLt (cCon (.int 0)) (cBin oIx (cVar 2) (cCon (.int 0))) (cBin oIx (cVar 2) (cCon (.int 1))) (cVar 1))) (sSeq (sRet (cCon (.bl false)))
  zA3) zA3)
  (sSeq (sRet (zDg (zBJ (oCmp fun i j=>decide (i≤j)) oLt (cCon (.int 0)) (cBin oIx (cVar 2) (cCon (.int 2))) (cVar 0)) (cApp (cl "is_bit") (zA0 [(cBin oIx (cVar 2) (cCon (.int 3)))]))))
  zA3))))
noncomputable def zLE (cl:CLL):C :=
 (cApp (cl "is_contact") (zA0 [(cVar 1),(cVar 2),(cVar 0)]))
noncomputable def zGe (cl:CLL):CS :=
 (sSeq (sIf (cOrT (zB3 (cTru (cApp zAG (zA0 [(cVar 0),(cCon (.ty "tuple"))])))) (zAa (cBin oNe (cApp fLen (zA0 [(cVar 0)])) (cCon (.int 3))))) (sSeq (sRet (cCon (.bl false)))
  zA3) zA3)
  (sSeq (sAsg (cBin oIx (cVar 0) (cCon (.int 0))) (gN 1))
  (sSeq (sAsg (cBin oIx (cVar 0) (cCon (.int 1))) (gN 2))
  (sSeq (sAsg (cBin oIx (cVar 0) (cCon (.int 2))) (gN 3))
  (sSeq (sIf (cOrT (zB3 (cTru (cApp (cl "is_whole") (zA0 [(cVar 1)])))) (zB3 (zAa (zBJ (oCmp fun i j=>decide (i≤j)) (oCmp fun i j=>decide (i≤j)) (cCon (.int 1)) (cVar 1) (cCon (.int 4)))))) (sSeq (sRet (cCon (.bl false)))
  zA3) zA3)
  (sSeq (sIf (cOrT (zB3 (cTru (cApp (cl "is_whole") (zA0 [(cVar 2)])))) (zB3 (zAa (zBJ (oCmp fun i j=>decide (i≤j)) (oCmp fun i j=>decide (i≤j)) (cCon (.int 2)) (cVar 2) (cCon (.int 7)))))) (sSeq (sRet (cCon (.bl false)))
  zA3) zA3)
  (sSeq (sIf (cOrT (zB3 (cTru (cApp zAG (zA0 [(cVar 3),(cCon (.ty "tuple"))])))) (zAa (cBin (oCmp fun i j=>decide (j<i)) (cApp fLen (zA0 [(cVar 3)])) (cCon (.int 16))))) (sSeq (sRet (cCon (.bl false)))
  zA3) zA3)
  (sSeq (sRet (cApp (zCc fun bs=>bs.all id) (zA0 [(zBe (iOr (iSeq (cVar 3)) (iTxt (cVar 3))) 1 [1,2] .one (fun _=>ret true) (zLE cl))])))
  zA3))))))))
noncomputable def zHK (cl:CLL):C :=
 (cBin oAdd (cTup (zA0 [(cCon (.int 0))])) (cVar 0))
noncomputable def zHJ (cl:CLL):C :=
 (cBin oAdd (cTup (zA0 [(cCon (.int 1))])) (cVar 0))
noncomputable def zHI (cl:CLL):CS :=
 (sSeq (sAsg (cBin oAdd (zBe (iOr (iSeq (cVar 1)) (iTxt (cVar 1))) 1 [] .one (fun _=>ret true) (zHK cl)) (zBe (iOr (iSeq (cVar 1)) (iTxt (cVar 1))) 1 [] .one (fun _=>ret true) (zHJ cl))) (gN 1))
  zA3)
noncomputable def zDi (cl:CLL):CS :=
 (sSeq (sAsg (cLst (zA0 [(cTup (zA0 []))])) (gN 1))
  (sSeq (sFor (zD9 (zA0 [(cVar 0)])) (gN 2) (zHI cl))
  (sSeq (sRet (cVar 1))
  zA3)))
noncomputable def zED (cl:CLL):CS :=
 (sSeq (sRet (cBin oEq (cBin oIx (cVar 1) (cBin oIx (cVar 0) (cCon (.int 2)))) (cBin oIx (cVar 0) (cCon (.int 3)))))
  zA3)
noncomputable def zJw (cl:CLL):CT :=
 (cTru (cApp (cl "is_shut") (zA0 [(cVar 1),(cVar 2)])))
noncomputable def zJx (cl:CLL):C :=
 (cVar 0)
noncomputable def zEC (cl:CLL):CS :=
 (sSeq (sRet (cApp zCr (zA0 [(zBe (zJb (zA0 [(cBin oIx (cVar 0) (cCon (.int 2)))])) 2 [1] (.many 2) (zJw cl) (zJx cl))])))
  zA3)
noncomputable def zEK (cl:CLL):CS :=
 (sSeq (sIf (zAa (cBin oNe (cBin oInS (cBin oIx (cVar 4) (cCon (.int 0))) (cVar 2)) (cBin oInS (cBin oIx (cVar 4) (cCon (.int 1))) (cVar 2)))) (sSeq (sAsg (cCon (.bl true)) (gS (cVar 2) (cBin oIx (cVar 4) (cCon (.int 0)))))
  (sSeq (sAsg (cCon (.bl true)) (gS (cVar 2) (cBin oIx (cVar 4) (cCon (.int 1)))))
  (sSeq (sAsg (cCon (.bl true)) (gN 3))
  zA3))) zA3)
  zA3)
noncomputable def zEL (cl:CLL):CS :=
 (sSeq (sAsg (cCon (.bl false)) (gN 3))
  (sSeq (sFor (iOr (iSeq (cVar 1)) (iTxt (cVar 1))) (gN 4) (zEK cl))
  zA3))
noncomputable def zBS (cl:CLL):CS :=
 (sSeq (sAsg (zOU (cVar 0) (cCon (.bl true))) (gN 2))
  (sSeq (sAsg (cCon (.bl true)) (gN 3))
  (sSeq (zDr zPA (cTru (cVar 3)) (zEL cl))
  (sSeq (sRet (cVar 2))
  zA3))))
noncomputable def zIC (cl:CLL):CS :=
 (sSeq (sRet (cBin oInS (cCon (.int 1)) (cApp (cl "places_from") (zA0 [(cCon (.int 0)),(cVar 0)]))))
  zA3)
noncomputable def zDz (cl:CLL):CT :=
 (cTru (cApp (cl "is_shut") (zA0 [(cVar 0),(cVar 1)])))
noncomputable def zDA (cl:CLL):C :=
 (cVar 0)
noncomputable def zBf (cl:CLL):CS :=
 (sSeq (sRet (zBe (iOr (iSeq (cBin oIx (cVar 0) (cCon (.int 2)))) (iTxt (cBin oIx (cVar 0) (cCon (.int 2))))) 1 [1] .one (zDz cl) (zDA cl)))
  zA3)
noncomputable def zMU (cl:CLL):CS :=
 (sSeq (sRet (cApp (cl "joins") (zA0 [(cApp (cl "shut_contacts") (zA0 [(cVar 0),(cVar 1)]))])))
  zA3)
noncomputable def zEQ (cl:CLL):C :=
 (cIf (cTru (cApp (cl "lets") (zA0 [(cVar 1),(cVar 0)]))) (cCon (.int 1)) (cCon (.int 0)))
noncomputable def zBU (cl:CLL):CS :=
 (sSeq (sRet (cApp zCr (zA0 [(zBe (iSeq (cApp (cl "settings") (zA0 [(cBin oIx (cVar 0) (cCon (.int 0)))]))) 1 [0] .one (fun _=>ret true) (zEQ cl))])))
  zA3)
noncomputable def zBg (cl:CLL):CS :=
 (sSeq (sRet (cBin oAdd (cApp zCr (zA0 [(cApp zD0 (zA0 [(cLst (zA0 [(cBin oIx (cVar 1) (cBin oIx (cVar 0) (cCon (.int 0)))),(cBin oIx (cVar 1) (cBin oIx (cVar 0) (cCon (.int 1))))]))]))])) (cSl oSl (cVar 0) (zBp (cCon (.int 2))) zAs)))
  zA3)
noncomputable def zO4 (cl:CLL):C :=
 (cApp (cl "moved_contact") (zA0 [(cVar 0),(cVar 1)]))
noncomputable def zIB (cl:CLL):CS :=
 (sSeq (sRet (cApp zCr (zA0 [(zBe (iOr (iSeq (cVar 0)) (iTxt (cVar 0))) 1 [1] .one (fun _=>ret true) (zO4 cl))])))
  zA3)
noncomputable def zCh (cl:CLL):CS :=
 (sSeq (sIf (zAa (cBin (oCmp fun i j=>decide (j<i)) (cVar 1) (cCon (.int 7)))) (sSeq (zAI "TooMany")
  zA3) zA3)
  (sSeq (sIf (zAa (cBin (oCmp fun i j=>decide (j<i)) (cApp fLen (zA0 [(cVar 2)])) (cCon (.int 16)))) (sSeq (zAI "TooMany")
  zA3) zA3)
  (sSeq (sRet (cTup (zA0 [(cVar 0),(cVar 1),(cVar 2)])))
  zA3)))
noncomputable def zGg (cl:CLL):CS :=
 (sSeq (sAsg (cBin (oInt fun i j=>i - j) (cBin oAdd (cBin oIx (cVar 0) (cCon (.int 1))) (cBin oIx (cVar 1) (cCon (.int 1)))) (cCon (.int 2))) (gN 2))
  (sSeq (sAsg (cApp (cl "moved") (zA0 [(cBin oIx (cVar 0) (cCon (.int 2))),(cBin oAdd (cLst (zA0 [(cCon (.int 0)),(cVar 2)])) (cApp zDx (zA0 [(cCon (.int 2)),(cBin oIx (cVar 0) (cCon (.int 1)))])))])) (gN 3))
  (sSeq (sAsg (cApp (cl "moved") (zA0 [(cBin oIx (cVar 1) (cCon (.int 2))),(cBin oAdd (cLst (zA0 [(cVar 2),(cCon (.int 1))])) (cApp zDx (zA0 [(cBin oIx (cVar 0) (cCon (.int 1))),(cVar 2)])))])) (gN 4))
  (sSeq (zC5 (zAt (cl "net_within") (zA0 [(cBin oIx (cVar 0) (cCon (.int 0))),(cBin oAdd (cVar 2) (cCon (.int 1))),(cBin oAdd (cVar 3) (cVar 4))])))
  zA3))))
noncomputable def zBr (cl:CLL):CS :=
 (sSeq (sAsg (cBin (oInt fun i j=>i - j) (cBin oAdd (cBin oIx (cVar 0) (cCon (.int 1))) (cBin oIx (cVar 1) (cCon (.int 1)))) (cCon (.int 2))) (gN 2))
  (sSeq (sAsg (cApp (cl "moved") (zA0 [(cBin oIx (cVar 1) (cCon (.int 2))),(cBin oAdd (cLst (zA0 [(cCon (.int 0)),(cCon (.int 1))])) (cApp zDx (zA0 [(cBin oIx (cVar 0) (cCon (.int 1))),(cVar 2)])))])) (gN 3))
  (sSeq (zC5 (zAt (cl "net_within") (zA0 [(cBin oIx (cVar 0) (cCon (.int 0))),(cVar 2),(cBin oAdd (cBin oIx (cVar 0) (cCon (.int 2))) (cVar 3))])))
  zA3)))
noncomputable def zAH (cl:CLL):CS :=
 (sSeq (sIf (cOrT (zB3 (cTru (cApp (cl "is_whole") (zA0 [(cVar 1)])))) (zB3 (zAa (zBJ (oCmp fun i j=>decide (i≤j)) oLt (cCon (.int 0)) (cVar 1) (cApp fLen (zA0 [(cBin oIx (cVar 0) (cCon (.int 2)))])))))) (sSeq (zAI "NoContact")
  zA3) zA3)
  zA3)
noncomputable def b_cut (cl:CLL):CS :=
 (sSeq (zCQ (zAt (cl "refuse_no_contact") (zA0 [(cVar 0),(cVar 1)])))
  (sSeq (sRet (cTup (zA0 [(cBin oIx (cVar 0) (cCon (.int 0))),(cBin oIx (cVar 0) (cCon (.int 1))),(cBin oAdd (cSl oSl (cBin oIx (cVar 0) (cCon (.int 2))) zAs (zBp (cVar 1))) (cSl oSl (cBin oIx (cVar 0) (cCon (.int 2))) (zBp (cBin oAdd (cVar 1) (cCon (.int 1)))) zAs))])))
  zA3))
noncomputable def zK7 (cl:CLL):CT :=
 (zAa (cBin oNe (cBin oIx (cVar 1) (cBin oIx (cVar 0) (cCon (.int 0)))) (cBin oIx (cVar 1) (cBin oIx (cVar 0) (cCon (.int 1))))))
noncomputable def zK8 (cl:CLL):C :=
 (cVar 0)
noncomputable def zEE (cl:CLL):CS :=
 (sSeq (zCQ (zAt (cl "refuse_no_contact") (zA0 [(cVar 0),(cVar 1)])))
  (sSeq (sAsg (cBin oIx (cBin oIx (cBin oIx (cVar 0) (cCon (.int 2))) (cVar 1)) (cCon (.int 0))) (gN 2))
  (sSeq (sAsg (cBin oIx (cBin oIx (cBin oIx (cVar 0) (cCon (.int 2))) (cVar 1)) (cCon (.int 1))) (gN 3))
  (sSeq (sIf (zAa (cBin oEq (cVar 3) (cCon (.int 1)))) (sSeq (zAI "NoBridge")
  zA3) zA3)
  (sSeq (sAsg (cBin oAdd (cBin oAdd (cApp zDx (zA0 [(cVar 3)])) (cLst (zA0 [(cVar 2)]))) (cApp zDx (zA0 [(cVar 3),(cBin (oInt fun i j=>i - j) (cBin oIx (cVar 0) (cCon (.int 1))) (cCon (.int 1)))]))) (gN 4))
  (sSeq (sAsg (zBe (iOr (iSeq (cBin oIx (cVar 0) (cCon (.int 2)))) (iTxt (cBin oIx (cVar 0) (cCon (.int 2))))) 1 [4] .one (zK7 cl) (zK8 cl)) (gN 5))
  (sSeq (sRet (cTup (zA0 [(cBin oIx (cVar 0) (cCon (.int 0))),(cBin (oInt fun i j=>i - j) (cBin oIx (cVar 0) (cCon (.int 1))) (cCon (.int 1))),(cApp (cl "moved") (zA0 [(cVar 5),(cVar 4)]))])))
  zA3)))))))
noncomputable def zBu (cl:CLL):CS :=
 (sSeq (sAsg (cBin oIx (cVar 0) (cCon (.int 0))) (gN 1))
  (sSeq (sAsg (cBin oIx (cVar 0) (cCon (.int 1))) (gN 2))
  (sSeq (sAsg (cBin oIx (cVar 0) (cCon (.int 2))) (gN 3))
  (sSeq (sAsg (cIf (zAa (cBin oEq (cBin oIx (cVar 0) (cCon (.int 3))) (cCon (.int 1)))) (cCon (.str (Str.ofString "+"))) (cCon (.str (Str.ofString "-")))) (gN 4))
  (sSeq (sRet (cJS [(cFmt (cVar 1)),(cCon (.str (Str.ofString "-"))),(cFmt (cVar 2)),(cCon (.str (Str.ofString "/"))),(cFmt (cVar 3)),(cFmt (cVar 4))] Str.empty))
  zA3)))))
noncomputable def zHV (cl:CLL):C :=
 (cApp (cl "contact_text") (zA0 [(cVar 0)]))
noncomputable def zDj (cl:CLL):CS :=
 (sSeq (sAsg (cBin oIx (cVar 0) (cCon (.int 0))) (gN 1))
  (sSeq (sAsg (cBin oIx (cVar 0) (cCon (.int 1))) (gN 2))
  (sSeq (sRet (zBq "str" zI0 (cCon (.str (Str.ofString " "))) (zA0 [(cBin oAdd (cLst (zA0 [(cJS [(cFmt (cVar 1)),(cCon (.str (Str.ofString " "))),(cFmt (cVar 2)),(cCon (.str (Str.ofString ":")))] Str.empty)])) (zBe (iOr (iSeq (cBin oIx (cVar 0) (cCon (.int 2)))) (iTxt (cBin oIx (cVar 0) (cCon (.int 2))))) 1 [] .one (fun _=>ret true) (zHV cl)))])))
  zA3)))
noncomputable def zHp (cl:CLL):C :=
 (cApp fStr (zA0 [(cVar 0)]))
noncomputable def zCG (cl:CLL):CS :=
 (sSeq (sRet (zBq "str" zI0 (cCon (.str (Str.ofString ""))) (zA0 [(zBe (iOr (iSeq (cVar 0)) (iTxt (cVar 0))) 1 [] .one (fun _=>ret true) (zHp cl))])))
  zA3)
noncomputable def zGh (cl:CLL):CS :=
 (sSeq (sRet (zBq "str" zO8 (cCon (.str (Str.ofString "0123456789"))) (zA0 [(cVar 0)])))
  zA3)
noncomputable def zCa (cl:CLL):C :=
 (cBin oEq (cApp fLen (zA0 [(cVar 0)])) (cCon (.int 6)))
noncomputable def zAy (cl:CLL):CS :=
 (sSeq (sIf (cOrT (zAa (cBin oLt (cApp fLen (zA0 [(cVar 0)])) (cCon (.int 2)))) (cOrT (zAa (cBin oNe (cApp fLen (zA0 [(cBin oIx (cVar 0) (cCon (.int 0)))])) (cCon (.int 1)))) (zAa (cBin oNe (cApp fLen (zA0 [(cBin oIx (cVar 0) (cCon (.int 1)))])) (cCon (.int 2)))))) (sSeq (sRet (cCon (.bl false)))
  zA3) zA3)
  (sSeq (sRet (cApp (zCc fun bs=>bs.all id) (zA0 [(zBe (iOr (iSeq (cSl oSl (cVar 0) (zBp (cCon (.int 2))) zAs)) (iTxt (cSl oSl (cVar 0) (zBp (cCon (.int 2))) zAs))) 1 [] .one (fun _=>ret true) (zCa cl))])))
  zA3))
noncomputable def zBv (cl:CLL):CS :=
 (sSeq (sRet (cTup (zA0 [(cApp (cl "figure") (zA0 [(cBin oIx (cVar 0) (cCon (.int 0)))])),(cApp (cl "figure") (zA0 [(cBin oIx (cVar 0) (cCon (.int 2)))])),(cApp (cl "figure") (zA0 [(cBin oIx (cVar 0) (cCon (.int 4)))])),(cIf (zAa (cBin oEq (cBin oIx (cVar 0) (cCon (.int 5))) (cCon (.str (Str.ofString "+"))))) (cCon (.int 1)) (cCon (.int 0)))])))
  zA3)
noncomputable def zHW (cl:CLL):C :=
 (cApp (cl "contact_read") (zA0 [(cVar 0)]))
noncomputable def zDk (cl:CLL):CS :=
 (sSeq (sIf (zB3 (cTru (cApp zAG (zA0 [(cVar 0),(cCon (.ty "str"))])))) (sSeq (zAI "BadNote")
  zA3) zA3)
  (sSeq (sAsg (zBq "str" zGN (cVar 0) (zA0 [(cCon (.str (Str.ofString " ")))])) (gN 1))
  (sSeq (sIf (zB3 (cTru (cApp (cl "has_lengths_of_net") (zA0 [(cVar 1)])))) (sSeq (zAI "BadNote")
  zA3) zA3)
  (sSeq (sAsg (cTup (zA0 [(cApp (cl "figure") (zA0 [(cBin oIx (cVar 1) (cCon (.int 0)))])),(cApp (cl "figure") (zA0 [(cBin oIx (cBin oIx (cVar 1) (cCon (.int 1))) (cCon (.int 0)))])),(cApp zCr (zA0 [(zBe (iOr (iSeq (cSl oSl (cVar 1) (zBp (cCon (.int 2))) zAs)) (iTxt (cSl oSl (cVar 1) (zBp (cCon (.int 2))) zAs))) 1 [] .one (fun _=>ret true) (zHW cl))]))])) (gN 2))
  (sSeq (sIf (cOrT (zB3 (cTru (cApp (cl "is_net") (zA0 [(cVar 2)])))) (zAa (cBin oNe (cApp (cl "net_text") (zA0 [(cVar 2)])) (cVar 0)))) (sSeq (zAI "BadNote")
  zA3) zA3)
  (sSeq (sRet (cVar 2))
  zA3))))))
noncomputable def zDS (cl:CLL):C :=
 (cApp fInt (zA0 [(cVar 0)]))
noncomputable def zDR (cl:CLL):C :=
 (cBin oInS (cVar 0) (cCon (.str (Str.ofString "01"))))
noncomputable def zBs (cl:CLL):CS :=
 (sSeq (sIf (cOrT (zB3 (zAa (zBJ (oCmp fun i j=>decide (i≤j)) (oCmp fun i j=>decide (i≤j)) (cCon (.int 1)) (cApp fLen (zA0 [(cVar 0)])) (cCon (.int 4))))) (zB3 (cTru (cApp (zCc fun bs=>bs.all id) (zA0 [(zBe (iOr (iSeq (cVar 0)) (iTxt (cVar 0))) 1 [] .one (fun _=>ret true) (zDR cl))]))))) (sSeq (zAI "BadNote")
  zA3) zA3)
  (sSeq (sRet (cApp zCr (zA0 [(zBe (iOr (iSeq (cVar 0)) (iTxt (cVar 0))) 1 [] .one (fun _=>ret true) (zDS cl))])))
  zA3))
noncomputable def zEN (cl:CLL):CS :=
 (sSeq (sIf (zAa (cBin oEq (cVar 0) (cApp fStr (zA0 [(cVar 1)])))) (sSeq (sRet (cVar 1))
  zA3) zA3)
  zA3)
noncomputable def zBT (cl:CLL):CS :=
 (sSeq (sFor (zD9 (zA0 [(cCon (.int 16))])) (gN 1) (zEN cl))
  (sSeq (zAI "BadNote")
  zA3))
noncomputable def zGL (cl:CLL):C :=
 (cBin oInS (cVar 0) (cCon (.str (Str.ofString "abcdefghijklmnopqrstuvwxyz"))))
noncomputable def zCE (cl:CLL):CS :=
 (sSeq (sIf (cOrT (zB3 (zAa (zBJ (oCmp fun i j=>decide (i≤j)) (oCmp fun i j=>decide (i≤j)) (cCon (.int 1)) (cApp fLen (zA0 [(cVar 0)])) (cCon (.int 8))))) (zB3 (cTru (cApp (zCc fun bs=>bs.all id) (zA0 [(zBe (iOr (iSeq (cVar 0)) (iTxt (cVar 0))) 1 [] .one (fun _=>ret true) (zGL cl))]))))) (sSeq (zAI "BadNote")
  zA3) zA3)
  (sSeq (sRet (cVar 0))
  zA3))
noncomputable def zCD (cl:CLL):CS :=
 (sSeq (sIf (zAa (cBin oEq (cVar 0) (cCon (.str (Str.ofString "TEXT"))))) (sSeq (zC5 (zAt (cl "net_read") (zA0 [(cVar 1)])))
  zA3) zA3)
  (sSeq (sIf (zAa (cBin oEq (cVar 0) (cCon (.str (Str.ofString "S"))))) (sSeq (zC5 (zAt (cl "setting_read") (zA0 [(cVar 1)])))
  zA3) zA3)
  (sSeq (sIf (zAa (cBin oEq (cVar 0) (cCon (.str (Str.ofString "C"))))) (sSeq (zC5 (zAt (cl "number_read") (zA0 [(cVar 1)])))
  zA3) zA3)
  (sSeq (zC5 (zAt (cl "name_read") (zA0 [(cVar 1)])))
  zA3))))
noncomputable def zB4 (cl:CLL):CS :=
 (sSeq (sIf (zB3 (cTru (cApp zAG (zA0 [(cVar 0),(cCon (.ty "str"))])))) (sSeq (zAI "BadNote")
  zA3) zA3)
  (sSeq (sIf (cTru (zBq "str" zJ2 (cVar 0) (zA0 [(cCon (.str (Str.ofString "net ")))]))) (sSeq (sRet (zBq "str" zFR (cVar 0) (zA0 [(cCon (.str (Str.ofString " "))),(cCon (.int 2))])))
  zA3) zA3)
  (sSeq (sRet (zBq "str" zGN (cVar 0) (zA0 [(cCon (.str (Str.ofString " ")))])))
  zA3)))
noncomputable def zGP (cl:CLL):C :=
 (zJl (cVar 0) (zAt (cl "word_read") (zA0 [(cVar 0),(cVar 1)])))
noncomputable def zCF (cl:CLL):CS :=
 (sSeq (sAsg (cApp zJ0 (zA0 [(cBin oIx (cVar 0) (cCon (.int 0)))])) (gN 1))
  (sSeq (sIf (cOrT (zAa (cBin oIs (cVar 1) (cCon .non))) (zAa (cBin oNe (cApp fLen (zA0 [(cVar 0)])) (cBin oAdd (cApp fLen (zA0 [(cVar 1)])) (cCon (.int 1)))))) (sSeq (zAI "BadNote")
  zA3) zA3)
  (sSeq (zC5 (cDX (zJn (zOw (zA0 [(cVar 1),(cSl oSl (cVar 0) (zBp (cCon (.int 1))) zAs)])) 2 [] (.many 2) (zGP cl))))
  zA3)))
noncomputable def zBt (cl:CLL):CS :=
 (sSeq (sIf (zK6 (zAa (cBin oInS (cCon (.str (Str.ofString "S"))) (cVar 0))) (zAa (cBin oNe (cApp fLen (zA0 [(cBin oIx (cVar 0) (cCon (.str (Str.ofString "S"))))])) (cBin oIx (cBin oIx (cVar 0) (cCon (.str (Str.ofString "A")))) (cCon (.int 0)))))) (sSeq (zAI "BadNote")
  zA3) zA3)
  (sSeq (sIf (zK6 (zAa (cBin oInS (cCon (.str (Str.ofString "B"))) (cVar 0))) (zAa (cBin oNe (cBin oIx (cBin oIx (cVar 0) (cCon (.str (Str.ofString "A")))) (cCon (.int 0))) (cBin oIx (cBin oIx (cVar 0) (cCon (.str (Str.ofString "B")))) (cCon (.int 0)))))) (sSeq (zAI "BadNote")
  zA3) zA3)
  zA3))
noncomputable def zDl (cl:CLL):CS :=
 (sSeq (sIf (zAa (cBin oEq (cVar 0) (cCon (.str (Str.ofString "net"))))) (sSeq (sRet (cBin oIx (cVar 1) (cCon (.str (Str.ofString "TEXT")))))
  zA3) zA3)
  (sSeq (sIf (zAa (cBin oEq (cVar 0) (cCon (.str (Str.ofString "row"))))) (sSeq (zC5 (zAt (cl "in_row") (zA0 [(cBin oIx (cVar 1) (cCon (.str (Str.ofString "A")))),(cBin oIx (cVar 1) (cCon (.str (Str.ofString "B"))))])))
  zA3) zA3)
  (sSeq (sIf (zAa (cBin oEq (cVar 0) (cCon (.str (Str.ofString "side"))))) (sSeq (zC5 (zAt (cl "side_by_side") (zA0 [(cBin oIx (cVar 1) (cCon (.str (Str.ofString "A")))),(cBin oIx (cVar 1) (cCon (.str (Str.ofString "B"))))])))
  zA3) zA3)
  (sSeq (sIf (zAa (cBin oEq (cVar 0) (cCon (.str (Str.ofString "about"))))) (sSeq sBad
  zA3) zA3)
  (sSeq (sIf (zAa (cBin oEq (cVar 0) (cCon (.str (Str.ofString "cut"))))) (sSeq (zC5 (zAt (cl "cut") (zA0 [(cBin oIx (cVar 1) (cCon (.str (Str.ofString "A")))),(cBin oIx (cVar 1) (cCon (.str (Str.ofString "C"))))])))
  zA3) zA3)
  (sSeq (sIf (zAa (cBin oEq (cVar 0) (cCon (.str (Str.ofString "bridge"))))) (sSeq (zC5 (zAt (cl "bridged") (zA0 [(cBin oIx (cVar 1) (cCon (.str (Str.ofString "A")))),(cBin oIx (cVar 1) (cCon (.str (Str.ofString "C"))))])))
  zA3) zA3)
  (sSeq sBad
  zA3)))))))
noncomputable def zEJ (cl:CLL):C :=
 (cApp fStr (zA0 [(cVar 0)]))
noncomputable def zBR (cl:CLL):CS :=
 (sSeq (sAsg (cApp (cl "shut_at") (zA0 [(cVar 0),(cVar 1)])) (gN 2))
  (sSeq (sIf (zB3 (cTru (cVar 2))) (sSeq (sRet (cCon (.str (Str.ofString "none"))))
  zA3) zA3)
  (sSeq (sRet (zBq "str" zI0 (cCon (.str (Str.ofString " "))) (zA0 [(zBe (iOr (iSeq (cVar 2)) (iTxt (cVar 2))) 1 [] .one (fun _=>ret true) (zEJ cl))])))
  zA3)))
noncomputable def zCI (cl:CLL):CS :=
 (sSeq (sIf (zAa (cBin oEq (cVar 0) (cCon (.str (Str.ofString "lets"))))) (sSeq (sRet (cIf (cTru (cApp (cl "lets") (zA0 [(cVar 1),(cVar 2)]))) (cCon (.str (Str.ofString "yes"))) (cCon (.str (Str.ofString "no")))))
  zA3) zA3)
  (sSeq (sIf (zAa (cBin oEq (cVar 0) (cCon (.str (Str.ofString "shut"))))) (sSeq (sRet (cApp (cl "shut_answer") (zA0 [(cVar 1),(cVar 2)])))
  zA3) zA3)
  (sSeq sBad
  zA3)))
noncomputable def zCH (cl:CLL):CS :=
 (sSeq (sIf (zAa (cBin oEq (cVar 0) (cCon (.str (Str.ofString "show"))))) (sSeq (sRet (cApp (cl "net_text") (zA0 [(cVar 1)])))
  zA3) zA3)
  (sSeq (sIf (zAa (cBin oEq (cVar 0) (cCon (.str (Str.ofString "function"))))) (sSeq (sRet (cApp (cl "bits_text") (zA0 [(cApp (cl "function_of") (zA0 [(cVar 1)]))])))
  zA3) zA3)
  (sSeq (sIf (zAa (cBin oEq (cVar 0) (cCon (.str (Str.ofString "fewest"))))) (sSeq sBad
  zA3) zA3)
  (sSeq (sIf (zAa (cBin oEq (cVar 0) (cCon (.str (Str.ofString "ways"))))) (sSeq sBad
  zA3) zA3)
  (sSeq sBad
  zA3)))))
noncomputable def zGi (cl:CLL):CS :=
 (sSeq (sIf (zAa (cBin oInS (cCon (.str (Str.ofString "S"))) (cVar 1))) (sSeq (sRet (cApp (cl "answer_at") (zA0 [(cVar 0),(cBin oIx (cVar 1) (cCon (.str (Str.ofString "A")))),(cBin oIx (cVar 1) (cCon (.str (Str.ofString "S"))))])))
  zA3) zA3)
  (sSeq (sIf (zAa (cBin oInS (cCon (.str (Str.ofString "B"))) (cVar 1))) (sSeq sBad
  zA3) zA3)
  (sSeq (sRet (cApp (cl "answer_of") (zA0 [(cVar 0),(cBin oIx (cVar 1) (cCon (.str (Str.ofString "A"))))])))
  zA3)))
noncomputable def zBL (cl:CLL):CS :=
 (sSeq (sAsg (cLst (zA0 [(cCon (.str (Str.ofString ""))),(cCon (.str (Str.ofString " "))),(cCon (.str (Str.ofString "nets "))),(cCon (.str (Str.ofString " nets"))),(cCon (.str (Str.ofString "nets a"))),(cCon (.str (Str.ofString "net"))),(cCon (.str (Str.ofString "net a"))),(cCon (.str (Str.ofString "net a "))),(cCon (.str (Str.ofString "net A 1 2:")))])) (gN 1))
  (sSeq (sAsg (cBin oAdd (cVar 1) (cLst (zA0 [(cCon (.str (Str.ofString "net longnames 1 2:"))),(cCon (.str (Str.ofString "net a 1 2"))),(cCon (.str (Str.ofString "net a 1 2: "))),(cCon (.str (Str.ofString "net a 1 2: 0-1/0")))]))) (gN 1))
  (sSeq (sAsg (cBin oAdd (cVar 1) (cLst (zA0 [(cCon (.str (Str.ofString "net a 1 2: 1-0/0+"))),(cCon (.str (Str.ofString "net a 1 2: 0-1/1+"))),(cCon (.str (Str.ofString "net a 5 2:"))),(cCon (.str (Str.ofString "net a 1 8:"))),(cCon (.str (Str.ofString "net a 01 2:")))]))) (gN 1))
  (sSeq (sAsg (cBin oAdd (cVar 1) (cLst (zA0 [(cCon (.str (Str.ofString "show"))),(cCon (.str (Str.ofString "show A"))),(cCon (.str (Str.ofString "show a b"))),(cCon (.str (Str.ofString "function"))),(cCon (.str (Str.ofString "function a 01"))),(cCon (.str (Str.ofString "lets a"))),(cCon (.str (Str.ofString "lets a 2")))]))) (gN 1))
  (sSeq (sAsg (cBin oAdd (cVar 1) (cLst (zA0 [(cCon (.str (Str.ofString "lets a x"))),(cCon (.str (Str.ofString "lets a 00000"))),(cCon (.str (Str.ofString "lets a "))),(cCon (.str (Str.ofString "lets A 00"))),(cCon (.str (Str.ofString "lets a 00 1"))),(cCon (.str (Str.ofString "shut a")))]))) (gN 1))
  (sSeq (sAsg (cBin oAdd (cVar 1) (cLst (zA0 [(cCon (.str (Str.ofString "shut a 0x"))),(cCon (.str (Str.ofString "pieces a"))),(cCon (.str (Str.ofString "pieces a 0 1"))),(cCon (.str (Str.ofString "row a b"))),(cCon (.str (Str.ofString "row a b C"))),(cCon (.str (Str.ofString "row a b c d")))]))) (gN 1))
  (sSeq (sAsg (cBin oAdd (cVar 1) (cLst (zA0 [(cCon (.str (Str.ofString "side a"))),(cCon (.str (Str.ofString "about a"))),(cCon (.str (Str.ofString "about a B"))),(cCon (.str (Str.ofString "about a b c"))),(cCon (.str (Str.ofString "cut a c"))),(cCon (.str (Str.ofString "cut a 16 c"))),(cCon (.str (Str.ofString "cut a 01 c")))]))) (gN 1))
  (sSeq (sAsg (cBin oAdd (cVar 1) (cLst (zA0 [(cCon (.str (Str.ofString "cut a x c"))),(cCon (.str (Str.ofString "cut a -1 c"))),(cCon (.str (Str.ofString "cut a 0 C"))),(cCon (.str (Str.ofString "cut a 0"))),(cCon (.str (Str.ofString "bridge a 99 c"))),(cCon (.str (Str.ofString "bridge a 0")))]))) (gN 1))
  (sSeq (sAsg (cBin oAdd (cVar 1) (cLst (zA0 [(cCon (.str (Str.ofString "trim a"))),(cCon (.str (Str.ofString "trim a B"))),(cCon (.str (Str.ofString "alike a"))),(cCon (.str (Str.ofString "alike a b c"))),(cCon (.str (Str.ofString "fewest"))),(cCon (.str (Str.ofString "fewest a b"))),(cCon (.str (Str.ofString "ways")))]))) (gN 1))
  (sSeq (sAsg (cBin oAdd (cVar 1) (cLst (zA0 [(cCon (.str (Str.ofString "ways a 1"))),(cCon (.str (Str.ofString "bars A"))),(cCon (.str (Str.ofString "Nets"))),(cCon .non),(cCon (.int 7)),(cTup (zA0 [(cCon (.str (Str.ofString "nets")))])),(cLst (zA0 [(cCon (.str (Str.ofString "nets")))])),(cCon (.bl true)),(cCon (.str (Str.ofString "lets zz 2")))]))) (gN 1))
  (sSeq (sAsg (cBin oAdd (cVar 1) (cLst (zA0 [(cCon (.str (Str.ofString "cut zz 16 c"))),(cCon (.str (Str.ofString "cut zz 0 C"))),(cCon (.str (Str.ofString "net zz 0 2:"))),(cCon (.str (Str.ofString "lets a 0"))),(cCon (.str (Str.ofString "lets a 000"))),(cCon (.str (Str.ofString "shut b 00")))]))) (gN 1))
  (sSeq (sAsg (cBin oAdd (cVar 1) (cLst (zA0 [(cCon (.str (Str.ofString "pieces a 0000"))),(cCon (.str (Str.ofString "row a b c"))),(cCon (.str (Str.ofString "side b a c"))),(cCon (.str (Str.ofString "alike a b"))),(cCon (.str (Str.ofString "alike b a")))]))) (gN 1))
  (sSeq (sRet (cBin oIx (cVar 1) (cBin oMod (cVar 0) (cApp fLen (zA0 [(cVar 1)])))))
  zA3)))))))))))))
noncomputable def zAJ (cl:CLL):CS :=
 (sSeq (sAsg (cLst (zA0 [(cTup (zA0 [(cCon (.str (Str.ofString "show zz"))),(cCon (.int 3))])),(cTup (zA0 [(cCon (.str (Str.ofString "function zz"))),(cCon (.int 3))])),(cTup (zA0 [(cCon (.str (Str.ofString "lets zz 0000"))),(cCon (.int 3))])),(cTup (zA0 [(cCon (.str (Str.ofString "shut zz 0"))),(cCon (.int 3))])),(cTup (zA0 [(cCon (.str (Str.ofString "pieces zz 1"))),(cCon (.int 3))]))])) (gN 1))
  (sSeq (sAsg (cBin oAdd (cVar 1) (cLst (zA0 [(cTup (zA0 [(cCon (.str (Str.ofString "row a zz c"))),(cCon (.int 3))])),(cTup (zA0 [(cCon (.str (Str.ofString "row zz b c"))),(cCon (.int 3))])),(cTup (zA0 [(cCon (.str (Str.ofString "side zz zz c"))),(cCon (.int 3))])),(cTup (zA0 [(cCon (.str (Str.ofString "about zz c"))),(cCon (.int 3))]))]))) (gN 1))
  (sSeq (sAsg (cBin oAdd (cVar 1) (cLst (zA0 [(cTup (zA0 [(cCon (.str (Str.ofString "cut zz 0 c"))),(cCon (.int 3))])),(cTup (zA0 [(cCon (.str (Str.ofString "bridge zz 15 c"))),(cCon (.int 3))])),(cTup (zA0 [(cCon (.str (Str.ofString "trim zz c"))),(cCon (.int 3))])),(cTup (zA0 [(cCon (.str (Str.ofString "alike a zz"))),(cCon (.int 3))]))]))) (gN 1))
  (sSeq (sAsg (cBin oAdd (cVar 1) (cLst (zA0 [(cTup (zA0 [(cCon (.str (Str.ofString "fewest zz"))),(cCon (.int 3))])),(cTup (zA0 [(cCon (.str (Str.ofString "ways zz"))),(cCon (.int 3))])),(cTup (zA0 [(cCon (.str (Str.ofString "bars zz"))),(cCon (.int 3))])),(cTup (zA0 [(cCon (.str (Str.ofString "cut a 3 c"))),(cCon (.int 1))])),(cTup (zA0 [(cCon (.str (Str.ofString "cut a 15 c"))),(cCon (.int 1))]))]))) (gN 1))
  (sSeq (sAsg (cBin oAdd (cVar 1) (cLst (zA0 [(cTup (zA0 [(cCon (.str (Str.ofString "bridge a 3 c"))),(cCon (.int 1))])),(cTup (zA0 [(cCon (.str (Str.ofString "bridge b 9 c"))),(cCon (.int 1))])),(cTup (zA0 [(cCon (.str (Str.ofString "bridge a 2 c"))),(cCon (.int 2))])),(cTup (zA0 [(cCon (.str (Str.ofString "bridge m 0 c"))),(cCon (.int 2))]))]))) (gN 1))
  (sSeq (sAsg (cBin oAdd (cVar 1) (cLst (zA0 [(cTup (zA0 [(cCon (.str (Str.ofString "row m m c"))),(cCon (.int 0))])),(cTup (zA0 [(cCon (.str (Str.ofString "side m m c"))),(cCon (.int 0))])),(cTup (zA0 [(cCon (.str (Str.ofString "row w w c"))),(cCon (.int 0))])),(cTup (zA0 [(cCon (.str (Str.ofString "side m a c"))),(cCon (.int 0))]))]))) (gN 1))
  (sSeq (sRet (cBin oIx (cVar 1) (cBin oMod (cVar 0) (cApp fLen (zA0 [(cVar 1)])))))
  zA3)))))))
noncomputable def zBI (cl:CLL):CS :=
 (sSeq (sAsg (cBin oMod (cVar 5) (cCon (.int 2147483647))) (gN 6))
  (sSeq (sAsg (cApp (cl "_law_bad") (zA0 [(cBin oDiv (cVar 6) (cCon (.int 2)))])) (gN 4))
  (sSeq (sAsg (cCon (.int 4)) (gN 7))
  (sSeq (sIf (zAa (cBin oEq (cBin oMod (cVar 6) (cCon (.int 2))) (cCon (.int 0)))) (sSeq (sAsg (cApp (cl "_law_due") (zA0 [(cBin oDiv (cVar 6) (cCon (.int 2)))])) (gT [(gN 4),(gN 7)]))
  zA3) zA3)
  (sSeq (sIf (zAa (cBin oNe (zBd lamD 4 rfB [4,1] (zK4 (cl "Desk.say") (cVar 1) (zA0 [(cVar 0)]))) (cLst (zA0 [(cVar 7)])))) (sSeq (sRet (cCon (.bl false)))
  zA3) zA3)
  (sSeq (sIf (cOrT (zAa (cBin oNe (cMth (cl "Desk.say") (cVar 1) (zA0 [(cCon (.str (Str.ofString "nets")))])) (cCon (.str (Str.ofString "a b m w"))))) (zAa (cBin oNe (cMth (cl "Desk.say") (cVar 1) (zA0 [(cCon (.str (Str.ofString "show a")))])) (cVar 2)))) (sSeq (sRet (cCon (.bl false)))
  zA3) zA3)
  zA3))))))
noncomputable def zBH (cl:CLL):CS :=
 (sSeq (zGB (cMth (cl "Desk.say") (cVar 1) (zA0 [(cVar 4)])))
  zA3)
noncomputable def zBK (cl:CLL):CS :=
 (sSeq (sAsg zK5 (gN 1))
  (sSeq (sAsg (cCon (.str (Str.ofString "2 3: 0-2/0+ 1-2/1- 0-1/0-"))) (gN 2))
  (sSeq (sAsg (cBin oAdd (cCon (.str (Str.ofString "2 2:"))) (cBin zLg (cCon (.str (Str.ofString " 0-1/0+"))) (cCon (.int 16)))) (gN 3))
  (sSeq (sFor (iOr (iSeq (cLst (zA0 [(cBin oAdd (cCon (.str (Str.ofString "net a "))) (cVar 2)),(cCon (.str (Str.ofString "net b 3 2: 0-1/2+"))),(cBin oAdd (cCon (.str (Str.ofString "net m "))) (cVar 3)),(cCon (.str (Str.ofString "net w 2 7: 0-6/0+")))]))) (iTxt (cLst (zA0 [(cBin oAdd (cCon (.str (Str.ofString "net a "))) (cVar 2)),(cCon (.str (Str.ofString "net b 3 2: 0-1/2+"))),(cBin oAdd (cCon (.str (Str.ofString "net m "))) (cVar 3)),(cCon (.str (Str.ofString "net w 2 7: 0-6/0+")))])))) (gN 4) (zBH cl))
  (sSeq (sFor (iOr (iSeq (cBin oAdd (cSl oSl (cVar 0) zAs (zBp (cCon (.int 30)))) (cLst (zA0 [(cCon (.int 7))])))) (iTxt (cBin oAdd (cSl oSl (cVar 0) zAs (zBp (cCon (.int 30)))) (cLst (zA0 [(cCon (.int 7))]))))) (gN 5) (zBI cl))
  (sSeq (sRet (zDg (cBin oEq (cMth (cl "Desk.say") (cVar 1) (zA0 [(cCon (.str (Str.ofString "lets a 10")))])) (cCon (.str (Str.ofString "yes")))) (zDg (cBin oEq (cMth (cl "Desk.say") (cVar 1) (zA0 [(cCon (.str (Str.ofString "function a")))])) (cCon (.str (Str.ofString "1110")))) (cBin oEq (cMth (cl "Desk.say") (cVar 1) (zA0 [(cCon (.str (Str.ofString "shut w 00")))])) (cCon (.str (Str.ofString "none")))))))
  zA3))))))
noncomputable def zDp (cl:CLL):CS :=
 (sSeq (sIf (zAa (cBin oInS (cVar 3) (cVar 1))) (sSeq (sIf (zAa (cBin (oIn true) (cBin oIx (cVar 1) (cVar 3)) (cUn zGI (cVar 0)))) (sSeq (zAI "NoName")
  zA3) zA3)
  (sSeq (sAsg (cBin oIx (cUn zGI (cVar 0)) (cBin oIx (cVar 1) (cVar 3))) (gS (cVar 2) (cVar 3)))
  zA3)) zA3)
  zA3)
noncomputable def zAZ (cl:CLL):CS :=
 (sSeq (sAsg (cApp zFw (zA0 [(cVar 1)])) (gN 2))
  (sSeq (sFor (iOr (iSeq (cTup (zA0 [(cCon (.str (Str.ofString "A"))),(cCon (.str (Str.ofString "B")))]))) (iTxt (cTup (zA0 [(cCon (.str (Str.ofString "A"))),(cCon (.str (Str.ofString "B")))])))) (gN 3) (zDp cl))
  (sSeq (sRet (cVar 2))
  zA3)))
noncomputable def zAv (cl:CLL):CS :=
 (sSeq (zFJ (zAt (cl "words_of") (zA0 [(cVar 1)])) (gN 2))
  (sSeq (zFJ (zJm (cl "Desk.with_nets") (cVar 0) (zAt (cl "line_read") (zA0 [(cVar 2)]))) (gN 3))
  (sSeq (zCQ (zAt (cl "refuse_unfit") (zA0 [(cVar 3)])))
  (sSeq (sIf (zAa (cBin oEq (cBin oIx (cVar 2) (cCon (.int 0))) (cCon (.str (Str.ofString "nets"))))) (sSeq (sRet (zBq "str" zI0 (cCon (.str (Str.ofString " "))) (zA0 [(cApp zD0 (zA0 [(cUn zGI (cVar 0))]))])))
  zA3) zA3)
  (sSeq (sIf (zAa (cBin oInS (cCon (.str (Str.ofString "N"))) (cVar 3))) (sSeq (zFJ (zAt (cl "net_made") (zA0 [(cBin oIx (cVar 2) (cCon (.int 0))),(cVar 3)])) (gS (cUn zGI (cVar 0)) (cBin oIx (cVar 3) (cCon (.str (Str.ofString "N"))))))
  (sSeq (sRet (cCon (.str (Str.ofString "ok"))))
  zA3)) zA3)
  (sSeq (sRet (cApp (cl "answer") (zA0 [(cBin oIx (cVar 2) (cCon (.int 0))),(cVar 3)])))
  zA3))))))
theorem zC8 {c g:Str} (hc:c∈xoL) (S:zA2):oIsX g (.xc c) S=.ok (.bl (c == g||g == ("ValueError":Str))) S:=by
 unfold oIsX; dsimp only; rw [if_pos hc]
noncomputable def xoN:List (Str × Int):=[("TooMany",0),("NoContact",1),("NoBridge",2),("NoName",3),("BadNote",4),("NoPlace",5),("NoTable",6)]
noncomputable abbrev flg (b0 b1 b2 b3 b4 b5 b6:Bool):List (Int × Bool):=[(0,b0),(1,b1),(2,b2),(3,b3),(4,b4),(5,b5),(6,b6)]
theorem zQe {S:zA2}{n:Nat}{b0 b1 b2 b3 b4 b5 b6:Bool}{ρ:Env1} (h:zA9 S n=some [.bl b0,.bl b1,.bl b2,.bl b3,.bl b4,.bl b5,.bl b6]) (hρ:ρ[3]?=some (some (.lst n))) :
  zDB [] .one (cTru (cBin oIx (cVar 1) (cVar 0))) (cVar 0) (stE 1 [3] ρ) (upD 0 7) S=.ok ((((flg b0 b1 b2 b3 b4 b5 b6).filter (·.2)).map (·.1)).map D.int) S:=by
 have e:upD 0 7=(flg b0 b1 b2 b3 b4 b5 b6).map fun p=>D.int p.1:=rfl
 rw [e,List.map_map]
 refine zMk (fun p:Int × Bool=>D.int p.1) (zQN _) (·.2) (fun p=>D.int p.1) _ fun p hp=>?_
 have es:stE 1 [3] ρ=[none,some (.lst n)]:=by unfold stE; simp [hρ]
 rw [es]
 refine ⟨[some (.int p.1),some (.lst n)],rfl,?_,fun _=>rfl⟩
 have ex:oIx (.lst n) (.int p.1) S=.ok (.bl p.2) S:=by
  rw [zLh h]
  simp only [List.mem_cons,List.not_mem_nil,or_false] at hp
  rcases hp with rfl | rfl | rfl | rfl | rfl | rfl | rfl <;> rfl
 simp [ex]
theorem zCv {c:Str}{S:zA2}{b0 b1 b2 b3 b4 b5 b6:Bool} (hc:c∈xoL) (h0:(c == ("TooMany":Str)||("TooMany":Str) == "ValueError")=b0) (h1:(c == ("NoContact":Str)||("NoContact":Str) == "ValueError")=b1) (h2:(c == ("NoBridge":Str)||("NoBridge":Str) == "ValueError")=b2) (h3:(c == ("NoName":Str)||("NoName":Str) == "ValueError")=b3)
  (h4:(c == ("BadNote":Str)||("BadNote":Str) == "ValueError")=b4) (h5:(c == ("NoPlace":Str)||("NoPlace":Str) == "ValueError")=b5) (h6:(c == ("NoTable":Str)||("NoTable":Str) == "ValueError")=b6) :
  ∃ n S',endR (rfB (rfE 4 (.xc c)) S)=.ok (.lst n) S'∧zA9 S' n=some ((((flg b0 b1 b2 b3 b4 b5 b6).filter (·.2)).map (·.1)).map D.int)∧Ex S S':=by
 obtain ⟨S1,hS1⟩:∃ S1,S++[O.lst [.bl b0,.bl b1,.bl b2]]=S1:=⟨_,rfl⟩
 obtain ⟨S2,hS2⟩:∃ S2,S1++[O.lst [.bl b3,.bl b4,.bl b5]]=S2:=⟨_,rfl⟩
 obtain ⟨S3,hS3⟩:∃ S3,S2++[O.lst [.bl b0,.bl b1,.bl b2,.bl b3,.bl b4,.bl b5]]=S3:=⟨_,rfl⟩
 obtain ⟨S4,hS4⟩:∃ S4,S3.set S2.length (O.lst [.bl b0,.bl b1,.bl b2,.bl b3,.bl b4,.bl b5,.bl b6])=S4:=⟨_,rfl⟩
 have l1:zA9 S1 S.length=some [.bl b0,.bl b1,.bl b2]:=by rw [← hS1]; exact zAp _ _
 have l1':zA9 S2 S.length=some [.bl b0,.bl b1,.bl b2]:=by rw [← hS2]; exact zCW l1
 have l2:zA9 S2 S1.length=some [.bl b3,.bl b4,.bl b5]:=by rw [← hS2]; exact zAp _ _
 have l3:zA9 S3 S2.length=some [.bl b0,.bl b1,.bl b2,.bl b3,.bl b4,.bl b5]:=by rw [← hS3]; exact zAp _ _
 have l4:zA9 S4 S2.length=some [.bl b0,.bl b1,.bl b2,.bl b3,.bl b4,.bl b5,.bl b6]:=by rw [← hS4]; exact zLr l3
 have lm6:(6:Nat)<lim:=by decide
 have lm7:(upD 0 7).length<lim:=by decide
 have ea:=zFN l1' l2 (show 3+3≤lim by decide)
 simp only [List.cons_append,List.nil_append] at ea
 rw [hS3] at ea
 have em:=zO7 l3 zDa [.bl b6]
 have et:=zN6 l3
 obtain ⟨W,hW⟩:∃ W,(((flg b0 b1 b2 b3 b4 b5 b6).filter (·.2)).map (·.1)).map D.int=W:=⟨_,rfl⟩
 have ec:=zQe (ρ:=[none,some (.xc c),none,some (.lst S2.length)]) l4 rfl
 rw [hW,show stE 1 [3] [none,some (D.xc c),none,some (.lst S2.length)]=[none,some (.lst S2.length)] from rfl] at ec
 rw [hW]
 have x4:Ex S S4:=by
  have k:Kp (·=S2.length) S3 S4:=by rw [← hS4]; exact kp_set _ _
  have x3:Ex S S3:=((hS1▸zB0 _ _:Ex S S1).trans (hS2▸zB0 _ _:Ex S1 S2)).trans (hS3▸zB0 _ _:Ex S2 S3)
  refine ⟨Nat.le_trans x3.le k.le,fun j hj hn=>(k.eq j (Nat.lt_of_lt_of_le hj x3.le) ?_).trans (x3.eq j hj hn)⟩
  intro z
  have:S.length≤S2.length:=((hS1▸zB0 _ _:Ex S S1).trans (hS2▸zB0 _ _:Ex S1 S2)).le
  omega
 have hv:oIsX "ValueError" (.xc c)=fun S=>.ok (.bl true) S:=by funext S; rw [zC8 hc,beq_self_eq_true,Bool.or_true]
 have g0:oIsX "TooMany" (.xc c)=fun S=>.ok (.bl b0) S:=by funext S; rw [zC8 hc,h0]
 have g1:oIsX "NoContact" (.xc c)=fun S=>.ok (.bl b1) S:=by funext S; rw [zC8 hc,h1]
 have g2:oIsX "NoBridge" (.xc c)=fun S=>.ok (.bl b2) S:=by funext S; rw [zC8 hc,h2]
 have g3:oIsX "NoName" (.xc c)=fun S=>.ok (.bl b3) S:=by funext S; rw [zC8 hc,h3]
 have g4:oIsX "BadNote" (.xc c)=fun S=>.ok (.bl b4) S:=by funext S; rw [zC8 hc,h4]
 have g5:oIsX "NoPlace" (.xc c)=fun S=>.ok (.bl b5) S:=by funext S; rw [zC8 hc,h5]
 have g6:oIsX "NoTable" (.xc c)=fun S=>.ok (.bl b6) S:=by funext S; rw [zC8 hc,h6]
 refine ⟨S4.length,S4++[.lst W],?_,zAp _ _,x4.trans (zB0 _ _)⟩
 have er:rfE 4 (.xc c)=[none,some (.xc c),none,none]:=rfl
 rw [er]
 simp [rfB,g0,g1,g2,g3,g4,g5,g6,hv,hS1,hS2,ea,em,et,hS4,ec,endR,lm6,lm7]
theorem zQf {c:Str}{k:Int} (hc:(c,k)∈xoN) (S:zA2):∃ n S',endR (rfB (rfE 4 (.xc c)) S)=.ok (.lst n) S'∧zA9 S' n=some [.int k]∧Ex S S':=by
 simp only [xoN,List.mem_cons,List.not_mem_nil,or_false,Prod.mk.injEq] at hc
 rcases hc with ⟨rfl,rfl⟩ | ⟨rfl,rfl⟩ | ⟨rfl,rfl⟩ | ⟨rfl,rfl⟩ | ⟨rfl,rfl⟩ | ⟨rfl,rfl⟩ | ⟨rfl,rfl⟩
 ·exact zCv (b0:=true) (b1:=false) (b2:=false) (b3:=false) (b4:=false) (b5:=false) (b6:=false) (by decide +kernel) (by decide +kernel) (by decide +kernel) (by decide +kernel) (by decide +kernel) (by decide +kernel) (by decide +kernel) (by decide +kernel)
 ·exact zCv (b0:=false) (b1:=true) (b2:=false) (b3:=false) (b4:=false) (b5:=false) (b6:=false) (by decide +kernel) (by decide +kernel) (by decide +kernel) (by decide +kernel) (by decide +kernel) (by decide +kernel) (by decide +kernel) (by decide +kernel)
 ·exact zCv (b0:=false) (b1:=false) (b2:=true) (b3:=false) (b4:=false) (b5:=false) (b6:=false) (by decide +kernel) (by decide +kernel) (by decide +kernel) (by decide +kernel) (by decide +kernel) (by decide +kernel) (by decide +kernel) (by decide +kernel)
 ·exact zCv (b0:=false) (b1:=false) (b2:=false) (b3:=true) (b4:=false) (b5:=false) (b6:=false) (by decide +kernel) (by decide +kernel) (by decide +kernel) (by decide +kernel) (by decide +kernel) (by decide +kernel) (by decide +kernel) (by decide +kernel)
 ·exact zCv (b0:=false) (b1:=false) (b2:=false) (b3:=false) (b4:=true) (b5:=false) (b6:=false) (by decide +kernel) (by decide +kernel) (by decide +kernel) (by decide +kernel) (by decide +kernel) (by decide +kernel) (by decide +kernel) (by decide +kernel)
 ·exact zCv (b0:=false) (b1:=false) (b2:=false) (b3:=false) (b4:=false) (b5:=true) (b6:=false) (by decide +kernel) (by decide +kernel) (by decide +kernel) (by decide +kernel) (by decide +kernel) (by decide +kernel) (by decide +kernel) (by decide +kernel)
 ·exact zCv (b0:=false) (b1:=false) (b2:=false) (b3:=false) (b4:=false) (b5:=false) (b6:=true) (by decide +kernel) (by decide +kernel) (by decide +kernel) (by decide +kernel) (by decide +kernel) (by decide +kernel) (by decide +kernel) (by decide +kernel)
inductive RfRt (r:R D) (k:Int) (S:zA2):Prop
 | mk (n:Nat) (S1:zA2) (e:r=.ok (.lst n) S1) (l:zA9 S1 n=some [.int k]) (x:Ex S S1)
theorem rfz_er {c:Str}{k:Int}{js:List Nat}{cb:C}{ρ:Env1}{S S1:zA2} (hc:(c,k)∈xoN) (h:S[0]?=some (.tb lamD)) (e:cb (stE 0 js ρ) S=.er c S1):RfRt (zBd lamD 4 rfB js cb ρ S) k S1:=by
 have hm:c∈xoL:=by
  simp only [xoN,List.mem_cons,List.not_mem_nil,or_false,Prod.mk.injEq] at hc
  rcases hc with ⟨rfl,_⟩ | ⟨rfl,_⟩ | ⟨rfl,_⟩ | ⟨rfl,_⟩ | ⟨rfl,_⟩ | ⟨rfl,_⟩ | ⟨rfl,_⟩ <;> decide +kernel
 obtain ⟨n,S',q1,q2,q3⟩:=zQf hc S1
 refine ⟨n,S',?_,q2,q3⟩
 unfold zBd
 rw [if_pos (zPF h),e]
 show (if c∈xoL then endR (rfB (rfE 4 (.xc c)) S1) else .bad)=_
 rw [if_pos hm,q1]
noncomputable def tbX:Tbl:=[(("is_whole":Str),(1,1,zDm)),
 (("is_bit":Str),(1,1,zGf)),
 (("is_contact":Str),(3,3,zCi)),
 (("is_net":Str),(1,4,zGe)),
 (("settings":Str),(1,3,zDi)),
 (("is_shut":Str),(2,2,zED)),
 (("shut_at":Str),(2,2,zEC)),
 (("places_from":Str),(2,5,zBS)),
 (("joins":Str),(1,1,zIC)),
 (("shut_contacts":Str),(2,2,zBf)),
 (("lets":Str),(2,2,zMU)),
 (("function_of":Str),(1,1,zBU)),
 (("moved_contact":Str),(2,2,zBg)),
 (("moved":Str),(2,2,zIB)),
 (("net_within":Str),(3,3,zCh)),
 (("in_row":Str),(2,5,zGg)),
 (("side_by_side":Str),(2,4,zBr)),
 (("refuse_no_contact":Str),(2,2,zAH)),
 (("cut":Str),(2,2,b_cut)),
 (("bridged":Str),(2,6,zEE)),
 (("contact_text":Str),(1,5,zBu)),
 (("net_text":Str),(1,3,zDj)),
 (("bits_text":Str),(1,1,zCG)),
 (("figure":Str),(1,1,zGh)),
 (("has_lengths_of_net":Str),(1,1,zAy)),
 (("contact_read":Str),(1,1,zBv)),
 (("net_read":Str),(1,3,zDk)),
 (("setting_read":Str),(1,1,zBs)),
 (("number_read":Str),(1,2,zBT)),
 (("name_read":Str),(1,1,zCE)),
 (("word_read":Str),(2,2,zCD)),
 (("words_of":Str),(1,1,zB4)),
 (("line_read":Str),(1,2,zCF)),
 (("refuse_unfit":Str),(1,1,zBt)),
 (("net_made":Str),(2,2,zDl)),
 (("shut_answer":Str),(2,3,zBR)),
 (("answer_at":Str),(3,3,zCI)),
 (("answer_of":Str),(2,2,zCH)),
 (("answer":Str),(2,2,zGi)),
 (("_law_bad":Str),(1,2,zBL)),
 (("_law_due":Str),(1,2,zAJ)),
 (("law":Str),(1,8,zBK)),
 (("Desk.with_nets":Str),(2,4,zAZ)),
 (("Desk.say":Str),(2,4,zAv))]
noncomputable abbrev ctD (a b s o:Int):D:=.tup [.int a,.int b,.int s,.int o]
noncomputable abbrev ntD (s p:Int) (cs:List D):D:=.tup [.int s,.int p,.tup cs]
noncomputable def K5:List (Key × D):=[(.inr "a",ntD 2 3 [ctD 0 2 0 1,ctD 1 2 1 0,ctD 0 1 0 0]),(.inr "b",ntD 3 2 [ctD 0 1 2 1]),(.inr "m",ntD 2 2 (List.replicate 16 (ctD 0 1 0 1))),(.inr "w",ntD 2 7 [ctD 0 6 0 1])]
noncomputable def S5:zA2:=[.tb lamD,.dk K5]
noncomputable def say (d:D) (S:zA2):R D:=runF 2 4 (zAv (zAk tbX 38)) [.ob 1,d] S
noncomputable def chkE (d:D) (c:Str):Bool:=inD 2 d&&(match say d S5 with
 | .er x S'=>decide (x=c)&&eqSb (S'.take 2) S5
 | _=>false)
noncomputable def chkO (d e:Str):Bool:=match say (.str d) S5 with
 | .ok (.str x) S'=>decide (x=e)&&eqSb (S'.take 2) S5
 | _=>false
theorem pre5 (G:zA2) {ds:List D} (h:inDs 2 ds=true):(inDs 2 ds&&S5.all (inO 2)&&decide (2≤(S5++G).length))=true:=by
 have h2:S5.all (inO 2)=true:=by decide +kernel
 have h3:2≤(S5++G).length:=by rw [List.length_append]; exact Nat.le_add_right 2 _
 rw [h,h2,decide_eq_true h3]; rfl
theorem sayE {d:D}{c:Str} (h:chkE d c=true) (G:zA2):zAk tbX 39 "Desk.say" [.ob 1,d] (S5++G)=.er c (S5++G):=by
 unfold chkE at h
 rw [Bool.and_eq_true] at h
 obtain ⟨h1,h2⟩:=h
 have t:(S5++G).take 2=S5:=rfl
 show zCB 2 (runF 2 4 (zAv (zAk tbX 38))) [.ob 1,d] (S5++G)=_
 unfold zCB
 rw [t,if_pos (pre5 G (by unfold inDs inDs inDs; rw [h1]; rfl))]
 change (match say d S5 with | .ok e S1=>_ | .er c S1=>_ | .bad=>_)=_
 split at h2
 ·rename_i x S' e
  rw [Bool.and_eq_true,decide_eq_true_eq] at h2
  rw [e]
  dsimp only
  rw [if_pos h2.2,h2.1]
 ·cases h2
theorem sayO {d e:Str} (h:chkO d e=true) (G:zA2):zAk tbX 39 "Desk.say" [.ob 1,.str d] (S5++G)=.ok (.str e) (S5++G):=by
 unfold chkO at h
 have t:(S5++G).take 2=S5:=rfl
 show zCB 2 (runF 2 4 (zAv (zAk tbX 38))) [.ob 1,.str d] (S5++G)=_
 unfold zCB
 rw [t,if_pos (pre5 G (by rfl))]
 change (match say (.str d) S5 with | .ok e S1=>_ | .er c S1=>_ | .bad=>_)=_
 split at h
 ·rename_i x S' e
  rw [Bool.and_eq_true,decide_eq_true_eq] at h
  rw [e]
  dsimp only
  rw [if_pos (by rw [Bool.and_eq_true]; exact ⟨rfl,h.2⟩),h.1]
 ·cases h
noncomputable def A1:List D:=[.str (Str.ofString ""),.str (Str.ofString " "),.str (Str.ofString "nets "),.str (Str.ofString " nets"),.str (Str.ofString "nets a"),.str (Str.ofString "net"),.str (Str.ofString "net a"),.str (Str.ofString "net a "),.str (Str.ofString "net A 1 2:"),.str (Str.ofString "net longnames 1 2:"),.str (Str.ofString "net a 1 2"),.str (Str.ofString "net a 1 2: "),.str (Str.ofString "net a 1 2: 0-1/0"),.str (Str.ofString "net a 1 2: 1-0/0+"),.str (Str.ofString "net a 1 2: 0-1/1+"),.str (Str.ofString "net a 5 2:"),.str (Str.ofString "net a 1 8:"),.str (Str.ofString "net a 01 2:"),.str (Str.ofString "show"),.str (Str.ofString "show A"),.str (Str.ofString "show a b"),.str (Str.ofString "function"),.str (Str.ofString "function a 01"),.str (Str.ofString "lets a"),.str (Str.ofString "lets a 2"),.str (Str.ofString "lets a x"),.str (Str.ofString "lets a 00000"),.str (Str.ofString "lets a "),.str (Str.ofString "lets A 00"),.str (Str.ofString "lets a 00 1"),.str (Str.ofString "shut a"),.str (Str.ofString "shut a 0x"),.str (Str.ofString "pieces a"),.str (Str.ofString "pieces a 0 1"),.str (Str.ofString "row a b"),.str (Str.ofString "row a b C"),.str (Str.ofString "row a b c d"),.str (Str.ofString "side a"),.str (Str.ofString "about a"),.str (Str.ofString "about a B"),.str (Str.ofString "about a b c"),.str (Str.ofString "cut a c"),.str (Str.ofString "cut a 16 c"),.str (Str.ofString "cut a 01 c"),.str (Str.ofString "cut a x c"),.str (Str.ofString "cut a -1 c"),.str (Str.ofString "cut a 0 C"),.str (Str.ofString "cut a 0"),.str (Str.ofString "bridge a 99 c"),.str (Str.ofString "bridge a 0"),.str (Str.ofString "trim a"),.str (Str.ofString "trim a B"),.str (Str.ofString "alike a"),.str (Str.ofString "alike a b c"),.str (Str.ofString "fewest"),.str (Str.ofString "fewest a b"),.str (Str.ofString "ways"),.str (Str.ofString "ways a 1"),.str (Str.ofString "bars A"),.str (Str.ofString "Nets"),.non,.int 7,.tup [.str (Str.ofString "nets")]]
noncomputable def A2:List D:=[.bl true,.str (Str.ofString "lets zz 2"),.str (Str.ofString "cut zz 16 c"),.str (Str.ofString "cut zz 0 C"),.str (Str.ofString "net zz 0 2:"),.str (Str.ofString "lets a 0"),.str (Str.ofString "lets a 000"),.str (Str.ofString "shut b 00"),.str (Str.ofString "pieces a 0000"),.str (Str.ofString "row a b c"),.str (Str.ofString "side b a c"),.str (Str.ofString "alike a b"),.str (Str.ofString "alike b a")]
noncomputable def DU:List (D × Int):=[(.str (Str.ofString "show zz"),3),(.str (Str.ofString "function zz"),3),(.str (Str.ofString "lets zz 0000"),3),(.str (Str.ofString "shut zz 0"),3),(.str (Str.ofString "pieces zz 1"),3),(.str (Str.ofString "row a zz c"),3),(.str (Str.ofString "row zz b c"),3),(.str (Str.ofString "side zz zz c"),3),(.str (Str.ofString "about zz c"),3),(.str (Str.ofString "cut zz 0 c"),3),(.str (Str.ofString "bridge zz 15 c"),3),(.str (Str.ofString "trim zz c"),3),(.str (Str.ofString "alike a zz"),3),(.str (Str.ofString "fewest zz"),3),(.str (Str.ofString "ways zz"),3),(.str (Str.ofString "bars zz"),3),(.str (Str.ofString "cut a 3 c"),1),(.str (Str.ofString "cut a 15 c"),1),(.str (Str.ofString "bridge a 3 c"),1),(.str (Str.ofString "bridge b 9 c"),1),(.str (Str.ofString "bridge a 2 c"),2),(.str (Str.ofString "bridge m 0 c"),2),(.str (Str.ofString "row m m c"),0),(.str (Str.ofString "side m m c"),0),(.str (Str.ofString "row w w c"),0),(.str (Str.ofString "side m a c"),0)]
noncomputable def nmOf (k:Int):Str:=if k=0 then "TooMany" else if k=1 then "NoContact" else if k=2 then "NoBridge" else "NoName"
theorem a1_ok:A1.all (fun d=>chkE d "BadNote")=true:=by decide +kernel
theorem a2_ok:A2.all (fun d=>chkE d "BadNote")=true:=by decide +kernel
theorem du_ok:DU.all (fun p=>chkE p.1 (nmOf p.2))=true:=by decide +kernel
theorem y_nets:chkO "nets" "a b m w"=true:=by decide +kernel
theorem y_show:chkO "show a" "2 3: 0-2/0+ 1-2/1- 0-1/0-"=true:=by decide +kernel
theorem y_lets:chkO "lets a 10" "yes"=true:=by decide +kernel
theorem y_fun:chkO "function a" "1110"=true:=by decide +kernel
theorem y_shut:chkO "shut w 00" "none"=true:=by decide +kernel
theorem zAz {G:RS→Prop}{cs:List C}{ys xs:List D}{i:Nat}{k:D}{S S1:zA2}{rest:CS} (l:zA9 S i=some xs) (e:zA0 cs [some k,some (.lst i)] S=.ok ys S1) (x:Ex S S1) (hl:xs.length+ys.length≤lim)
  (h:∀ j S2,zA9 S2 j=some (xs++ys)→Ex S1 S2→G (rest [some k,some (.lst j)] S2)):G (sSeq (sAsg (cBin oAdd (cVar 1) (cLst (zA0 cs))) (gN 1)) rest [some k,some (.lst i)] S):=by
 have l1:zA9 (S1++[.lst ys]) i=some xs:=zCW (x.lst l fun z=>z)
 have l2:=zAp S1 ys
 have a:=zFN l1 l2 hl
 have q:=h _ _ (zAp (S1++[.lst ys]) (xs++ys)) ((zB0 S1 [.lst ys]).trans (zB0 _ _))
 have r:sSeq (sAsg (cBin oAdd (cVar 1) (cLst (zA0 cs))) (gN 1)) rest [some k,some (.lst i)] S=rest [some k,some (.lst (S1++[O.lst ys]).length)] (S1++[O.lst ys]++[O.lst (xs++ys)]):=by simp [e,a]
 rw [r]; exact q
theorem zH5 {G:RS→Prop}{cs:List C}{ys:List D}{k:D}{S:zA2}{rest:CS} (e:zA0 cs [some k,none] S=.ok ys S)
  (h:∀ j S2,zA9 S2 j=some ys→Ex S S2→G (rest [some k,some (.lst j)] S2)):G (sSeq (sAsg (cLst (zA0 cs)) (gN 1)) rest [some k,none] S):=by
 have q:=h _ _ (zAp S ys) (zB0 _ _)
 have r:sSeq (sAsg (cLst (zA0 cs)) (gN 1)) rest [some k,none] S=rest [some k,some (.lst S.length)] (S++[O.lst ys]):=by simp [e]
 rw [r]; exact q
theorem zGR {i:Nat}{m:Int}{xs:List D}{S:zA2}{d:D} (l:zA9 S i=some xs) (hx:atI xs (m % (xs.length:Int))=some d) (h0:0<(xs.length:Int)) :
  sSeq (sRet (cBin oIx (cVar 1) (cBin oMod (cVar 0) (cApp fLen (zA0 [(cVar 1)]))))) zA3 [some (.int m),some (.lst i)] S=.rt d S:=by
 have a:=zOG l
 have b:=zLh l (m % (xs.length:Int))
 rw [hx] at b
 have h0':0<xs.length:=by omega
 simp [a,b,h0']
theorem zMV {xs:List D} (m:Int) (h:0<xs.length):∃ d,atI xs (m % (xs.length:Int))=some d∧d∈xs:=by
 have h1:=Int.emod_nonneg m (b:=(xs.length:Int)) (by omega)
 have h2:=Int.emod_lt_of_pos m (b:=(xs.length:Int)) (by omega)
 have h3:(m % (xs.length:Int)).toNat<xs.length:=by omega
 generalize m % (xs.length:Int)=z at h1 h2 h3
 obtain ⟨n,rfl⟩:∃ n:Nat,z=n:=⟨z.toNat,by omega⟩
 have h4:n<xs.length:=by omega
 exact ⟨xs[n],zEF (List.getElem?_eq_getElem h4),List.getElem_mem h4⟩
inductive BadR (S:zA2) (r:RS):Prop
 | mk (d:D) (S1:zA2) (e:r=.rt d S1) (x:Ex S S1) (g:chkE d "BadNote"=true∨∃ m xs,d=.lst m∧zA9 S1 m=some xs∧S.length≤m)
theorem zP0 (c:CLL) (m:Int) (S:zA2):BadR S (zBL c [some (.int m),none] S):=by
 unfold zBL
 refine zH5 (G:=BadR S) rfl fun j1 S1 l1 x1=>?_
 refine zAz (G:=BadR S) l1 rfl (Kp.refl _ _) (Nat.le_of_ble_eq_true rfl) fun j2 S2' l2 x2=>?_
 refine zAz (G:=BadR S) l2 rfl (Kp.refl _ _) (Nat.le_of_ble_eq_true rfl) fun j3 S3' l3 x3=>?_
 refine zAz (G:=BadR S) l3 rfl (Kp.refl _ _) (Nat.le_of_ble_eq_true rfl) fun j4 S4' l4 x4=>?_
 refine zAz (G:=BadR S) l4 rfl (Kp.refl _ _) (Nat.le_of_ble_eq_true rfl) fun j5 S5' l5 x5=>?_
 refine zAz (G:=BadR S) l5 rfl (Kp.refl _ _) (Nat.le_of_ble_eq_true rfl) fun j6 S6' l6 x6=>?_
 refine zAz (G:=BadR S) l6 rfl (Kp.refl _ _) (Nat.le_of_ble_eq_true rfl) fun j7 S7' l7 x7=>?_
 refine zAz (G:=BadR S) l7 rfl (Kp.refl _ _) (Nat.le_of_ble_eq_true rfl) fun j8 S8' l8 x8=>?_
 refine zAz (G:=BadR S) l8 rfl (Kp.refl _ _) (Nat.le_of_ble_eq_true rfl) fun j9 S9' l9 x9=>?_
 refine zAz (G:=BadR S) l9 (S1:=S9'++[.lst [.str (Str.ofString "nets")]]) rfl (zB0 _ _) (Nat.le_of_ble_eq_true rfl) fun ja Sa la xa=>?_
 refine zAz (G:=BadR S) la rfl (Kp.refl _ _) (Nat.le_of_ble_eq_true rfl) fun jb Sb lb xb=>?_
 refine zAz (G:=BadR S) lb rfl (Kp.refl _ _) (Nat.le_of_ble_eq_true rfl) fun jc Sc lc xc=>?_
 have L:zA9 Sc jc=some (A1++.lst S9'.length::A2):=lc
 obtain ⟨d,hd,hm⟩:=zMV (xs:=A1++.lst S9'.length::A2) m (by rw [List.length_append,List.length_cons]; omega)
 refine ⟨d,Sc,zGR L hd (by rw [List.length_append,List.length_cons]; omega),?_,?_⟩
 ·exact x1.trans (x2.trans (x3.trans (x4.trans (x5.trans (x6.trans (x7.trans (x8.trans (x9.trans ((zB0 S9' _).trans (xa.trans (xb.trans xc)))))))))))
 ·rcases List.mem_append.mp hm with h | h
  ·exact .inl (List.all_eq_true.mp a1_ok d h)
  ·rcases List.mem_cons.mp h with rfl | h
   ·exact .inr ⟨_,_,rfl,(xa.trans (xb.trans xc)).lst (zAp S9' [.str (Str.ofString "nets")]) fun z=>z,(x1.trans (x2.trans (x3.trans (x4.trans (x5.trans (x6.trans (x7.trans (x8.trans x9)))))))).le⟩
   ·exact .inl (List.all_eq_true.mp a2_ok d h)
inductive DueR (S:zA2) (r:RS):Prop
 | mk (d:D) (k:Int) (S1:zA2) (e:r=.rt (.tup [d,.int k]) S1) (x:Ex S S1) (g:chkE d (nmOf k)=true) (h:0≤k∧k≤3)
theorem zOL (c:CLL) (m:Int) (S:zA2):DueR S (zAJ c [some (.int m),none] S):=by
 unfold zAJ
 refine zH5 (G:=DueR S) rfl fun j1 S1 l1 x1=>?_
 refine zAz (G:=DueR S) l1 rfl (Kp.refl _ _) (Nat.le_of_ble_eq_true rfl) fun j2 S2' l2 x2=>?_
 refine zAz (G:=DueR S) l2 rfl (Kp.refl _ _) (Nat.le_of_ble_eq_true rfl) fun j3 S3' l3 x3=>?_
 refine zAz (G:=DueR S) l3 rfl (Kp.refl _ _) (Nat.le_of_ble_eq_true rfl) fun j4 S4' l4 x4=>?_
 refine zAz (G:=DueR S) l4 rfl (Kp.refl _ _) (Nat.le_of_ble_eq_true rfl) fun j5 S5' l5 x5=>?_
 refine zAz (G:=DueR S) l5 rfl (Kp.refl _ _) (Nat.le_of_ble_eq_true rfl) fun j6 S6' l6 x6=>?_
 have L:zA9 S6' j6=some (DU.map fun p=>.tup [p.1,.int p.2]):=l6
 obtain ⟨d,hd,hm⟩:=zMV (xs:=DU.map fun p=>.tup [p.1,.int p.2]) m (by decide)
 obtain ⟨p,hp,rfl⟩:=List.mem_map.mp hm
 refine ⟨p.1,p.2,S6',zGR L hd (by decide),?_,List.all_eq_true.mp du_ok p hp,?_⟩
 ·exact x1.trans (x2.trans (x3.trans (x4.trans (x5.trans x6))))
 ·have q:DU.all (fun p=>decide (0≤p.2∧p.2≤3))=true:=by decide +kernel
  exact of_decide_eq_true (List.all_eq_true.mp q p hp)
theorem zCX {w:zBM}{g:G}{b:CS}{d:D}{ds:List D}{ρ ρ1 ρ2:Env1}{S S1 S2:zA2} (hw:okW w S) (e1:g d ρ S=.ok ρ1 S1) (e2:b ρ1 S1=.nx ρ2 S2):zBo w g b (d::ds) ρ S=zBo w g b ds ρ2 S2:=by
 conv=>lhs; unfold zBo
 rw [if_pos hw,e1]
 dsimp only
 rw [e2]
noncomputable def stOf (r:R D):zA2:=match r with | .ok _ S=>S | _=>[]
noncomputable def isOk (r:R D):Bool:=match r with | .ok _ _=>true | _=>false
theorem zNS {r:R D} (h:isOk r=true):∃ d,r=.ok d (stOf r):=by
 cases r with
 | ok d S=>exact ⟨d,rfl⟩
 | _=>cases h
noncomputable def n1:Str := "net a 2 3: 0-2/0+ 1-2/1- 0-1/0-"
noncomputable def n2:Str := "net b 3 2: 0-1/2+"
noncomputable def n3:Str := "net m 2 2: 0-1/0+ 0-1/0+ 0-1/0+ 0-1/0+ 0-1/0+ 0-1/0+ 0-1/0+ 0-1/0+ 0-1/0+ 0-1/0+ 0-1/0+ 0-1/0+ 0-1/0+ 0-1/0+ 0-1/0+ 0-1/0+"
noncomputable def n4:Str := "net w 2 7: 0-6/0+"
noncomputable def T4:List D:=[.str n1,.str n2,.str n3,.str n4]
noncomputable def X0:zA2:=[.tb lamD,.dk [],.lst T4]
noncomputable def cl9:CLL:=zAk tbX 39
noncomputable def X1:zA2:=stOf (cl9 "Desk.say" [.ob 1,.str n1] X0)
noncomputable def X2:zA2:=stOf (cl9 "Desk.say" [.ob 1,.str n2] X1)
noncomputable def X3:zA2:=stOf (cl9 "Desk.say" [.ob 1,.str n3] X2)
noncomputable def X4:zA2:=stOf (cl9 "Desk.say" [.ob 1,.str n4] X3)
theorem x_ok:(isOk (cl9 "Desk.say" [.ob 1,.str n1] X0)&&isOk (cl9 "Desk.say" [.ob 1,.str n2] X1)&&isOk (cl9 "Desk.say" [.ob 1,.str n3] X2)&&isOk (cl9 "Desk.say" [.ob 1,.str n4] X3)&&eqSb (X4.take 2) S5)=true:=by decide +kernel
theorem w_ok:(decide (okW [(2,T4)] X0)&&decide (okW [(2,T4)] X1)&&decide (okW [(2,T4)] X2)&&decide (okW [(2,T4)] X3)&&decide (okW [(2,T4)] X4))=true:=by decide +kernel
theorem zJ6 {v0 v2 v3 v5 v6 v7:Option D}{d x:D}{S S1:zA2} (e:cl9 "Desk.say" [.ob 1,d] S=.ok x S1):zBH cl9 [v0,some (.ob 1),v2,v3,some d,v5,v6,v7] S=.nx [v0,some (.ob 1),v2,v3,some d,v5,v6,v7] S1:=by
 have e:cMth (cl9 "Desk.say") (cVar 1) (zA0 [cVar 4]) [v0,some (.ob 1),v2,v3,some d,v5,v6,v7] S=.ok x S1:=e
 simp [zBH,e]
theorem made {v0 v2 v3 v4 v5 v6 v7:Option D}:∃ v4',zBo [(2,T4)] (gN 4) (zBH cl9) T4 [v0,some (.ob 1),v2,v3,v4,v5,v6,v7] X0=.nx [v0,some (.ob 1),v2,v3,v4',v5,v6,v7] X4:=by
 have h:=x_ok
 have w:=w_ok
 simp only [Bool.and_eq_true,decide_eq_true_eq] at h w
 obtain ⟨⟨⟨⟨h1,h2⟩,h3⟩,h4⟩,_⟩:=h
 obtain ⟨⟨⟨⟨w0,w1⟩,w2⟩,w3⟩,w4⟩:=w
 obtain ⟨d1,e1⟩:=zNS h1
 obtain ⟨d2,e2⟩:=zNS h2
 obtain ⟨d3,e3⟩:=zNS h3
 obtain ⟨d4,e4⟩:=zNS h4
 refine ⟨some (.str n4),?_⟩
 show zBo _ _ _ [.str n1,.str n2,.str n3,.str n4] _ _=_
 rw [zCX w0 rfl (zJ6 e1)]
 refine (zCX w1 rfl (zJ6 e2)).trans ?_
 refine (zCX w2 rfl (zJ6 e3)).trans ?_
 refine (zCX w3 rfl (zJ6 e4)).trans ?_
 unfold zBo
 exact if_pos w4
def Pre (S:zA2):Prop:=S.take 2=S5
theorem Pre.eq {S:zA2} (h:Pre S):S=S5++S.drop 2:=by
 have q:=List.take_append_drop 2 S
 rw [show S.take 2=S5 from h] at q
 exact q.symm
theorem Pre.ex {S S':zA2} (h:Pre S) (x:Ex S S'):Pre S':=by
 have hl:2≤S.length:=by
  have:=congrArg List.length h
  rw [List.length_take] at this
  have h5:S5.length=2:=rfl
  omega
 unfold Pre
 rw [← show S.take 2=S5 from h]
 refine List.ext_getElem? fun i=>?_
 by_cases hi:i<2
 ·rw [List.getElem?_take_of_lt hi,List.getElem?_take_of_lt hi]
  exact x.eq i (by omega) fun z=>z
 ·rw [List.getElem?_eq_none (by rw [List.length_take]; omega),List.getElem?_eq_none (by rw [List.length_take]; omega)]
theorem Pre.tb {S:zA2} (h:Pre S):S[0]?=some (.tb lamD):=by rw [h.eq]; rfl
theorem sayE' {d:D}{c:Str} (h:chkE d c=true) {S:zA2} (p:Pre S):cl9 "Desk.say" [.ob 1,d] S=.er c S:=by
 rw [p.eq]; exact sayE h _
theorem sayO' {d e:Str} (h:chkO d e=true) {S:zA2} (p:Pre S):cl9 "Desk.say" [.ob 1,.str d] S=.ok (.str e) S:=by
 rw [p.eq]; exact sayO h _
theorem q_say:cl9 "Desk.say"=zCB 2 (runF 2 4 (zAv (zAk tbX 38))):=by kernel_rfl
theorem q_bad:cl9 "_law_bad"=runF 1 2 (zBL (zAk tbX 38)):=by kernel_rfl
theorem q_due:cl9 "_law_due"=runF 1 2 (zAJ (zAk tbX 38)):=by kernel_rfl
theorem zQl:zAk tbX 38 "words_of"=runF 1 1 (zB4 (zAk tbX 37)):=by kernel_rfl
theorem zLZ {m:Nat}{xs:List D}{S:zA2} (l:zA9 S m=some xs):zAG [.lst m,.ty "str"] S=.ok (.bl false) S:=by
 have k:zOi S (.lst m)=some "list":=by
  show (if (zA9 S m).isSome then some "list" else none)=_
  rw [l]; rfl
 show (match zOi S (.lst m) with | some t=>_ | none=>_)=_
 rw [k]; rfl
theorem zN3 {m:Nat}{xs:List D}{S:zA2} (l:zA9 S m=some xs):zAk tbX 38 "words_of" [.lst m] S=.er "BadNote" S:=by
 rw [zQl]
 refine zPd rfl ?_
 have a:=zLZ l
 show zB4 _ [some (.lst m)] S=_
 simp [zB4,a]
theorem say_no {m:Nat}{xs:List D}{S:zA2} (hm:2≤m) (l:zA9 S m=some xs):cl9 "Desk.say" [.ob 1,.lst m] S=.er "BadNote" S:=by
 rw [q_say]
 unfold zCB
 rw [if_neg (by unfold inDs inDs inDs inD; simp; intro h; omega)]
 refine zPd rfl ?_
 have a:=zN3 l
 show zAv _ [some (.ob 1),some (.lst m),none,none] S=_
 simp [zAv,a]
theorem oNe_str (x:Str) (S:zA2):oNe (.str x) (.str x) S=.ok (.bl false) S:=by
 show R.ok (D.bl (!decide (x=x))) S=_
 rw [decide_eq_true rfl]; rfl
theorem oEq_str (x:Str) (S:zA2):oEq (.str x) (.str x) S=.ok (.bl true) S:=by
 show R.ok (D.bl (decide (x=x))) S=_
 rw [decide_eq_true rfl]
noncomputable abbrev zDQ:Str := "2 3: 0-2/0+ 1-2/1- 0-1/0-"
theorem zJ3 {v0 v3 v5 v6:Option D}{d:D}{k:Int}{c:Str}{S:zA2} (hc:(c,k)∈xoN) (p:Pre S) (e:cl9 "Desk.say" [.ob 1,d] S=.er c S) :
  ∃ S',(sSeq (sIf (zAa (cBin oNe (zBd lamD 4 rfB [4,1] (zK4 (cl9 "Desk.say") (cVar 1) (zA0 [(cVar 0)]))) (cLst (zA0 [(cVar 7)])))) (sSeq (sRet (cCon (.bl false))) zA3) zA3)
   (sSeq (sIf (cOrT (zAa (cBin oNe (cMth (cl9 "Desk.say") (cVar 1) (zA0 [(cCon (.str (Str.ofString "nets")))])) (cCon (.str (Str.ofString "a b m w"))))) (zAa (cBin oNe (cMth (cl9 "Desk.say") (cVar 1) (zA0 [(cCon (.str (Str.ofString "show a")))])) (cVar 2)))) (sSeq (sRet (cCon (.bl false))) zA3) zA3)
   zA3)) [v0,some (.ob 1),some (.str zDQ),v3,some d,v5,v6,some (.int k)] S=.nx [v0,some (.ob 1),some (.str zDQ),v3,some d,v5,v6,some (.int k)] S'∧Ex S S':=by
 obtain ⟨n,S1,e1,l1,x1⟩:=rfz_er (js:=[4,1]) (ρ:=[v0,some (.ob 1),some (.str zDQ),v3,some d,v5,v6,some (.int k)]) (cb:=zK4 (cl9 "Desk.say") (cVar 1) (zA0 [(cVar 0)])) hc p.tb (S1:=S) (by
  show (match cl9 "Desk.say" [.ob 1,d] S with | r=>r)=_
  exact e)
 have q:=oNe_lst (S:=S1++[O.lst [.int k]]) (zCW l1) (zAp S1 [.int k]) rfl rfl
 rw [zOJ] at q
 obtain ⟨S2,h2⟩:∃ S2,S1++[O.lst [.int k]]=S2:=⟨_,rfl⟩
 have x2:Ex S S2:=h2▸x1.trans (zB0 _ _)
 rw [h2] at q
 have p2:=p.ex x2
 have a1:cMth (cl9 "Desk.say") (cVar 1) (zA0 [(cCon (.str (Str.ofString "nets")))]) [v0,some (.ob 1),some (.str zDQ),v3,some d,v5,v6,some (.int k)] S2=.ok (.str (Str.ofString "a b m w")) S2:=sayO' y_nets p2
 have a2:cMth (cl9 "Desk.say") (cVar 1) (zA0 [(cCon (.str (Str.ofString "show a")))]) [v0,some (.ob 1),some (.str zDQ),v3,some d,v5,v6,some (.int k)] S2=.ok (.str zDQ) S2:=sayO' y_show p2
 refine ⟨S2,?_,x2⟩
 simp [e1,h2,q,a1,a2,oNe_str]
theorem xoN_nm {k:Int} (h:0≤k∧k≤3):(nmOf k,k)∈xoN:=by
 have:k=0∨k=1∨k=2∨k=3:=by omega
 rcases this with rfl | rfl | rfl | rfl <;> decide +kernel
theorem zN8 {v0 v3 v4 v6 v7:Option D}{c:Int}{S:zA2} (p:Pre S):∃ v4' v6' v7' S',zBI cl9 [v0,some (.ob 1),some (.str zDQ),v3,v4,some (.int c),v6,v7] S=.nx [v0,some (.ob 1),some (.str zDQ),v3,v4',some (.int c),v6',v7'] S'∧Ex S S':=by
 obtain ⟨d,S1,e1,x1,g1⟩:=zP0 (zAk tbX 38) (c % 2147483647 / 2) S
 have a1:cl9 "_law_bad" [.int (c % 2147483647 / 2)] S=.ok d S1:=by rw [q_bad]; exact zKQ rfl e1
 have p1:=p.ex x1
 unfold zBI
 by_cases h:c % 2147483647 % 2=0
 ·obtain ⟨d2,k,S2,e2,x2,g2,h2⟩:=zOL (zAk tbX 38) (c % 2147483647 / 2) S1
  have a2:cl9 "_law_due" [.int (c % 2147483647 / 2)] S1=.ok (.tup [d2,.int k]) S2:=by rw [q_due]; exact zKQ rfl e2
  have p2:=p1.ex x2
  obtain ⟨S3,e3,x3⟩:=zJ3 (v0:=v0) (v3:=v3) (v5:=some (.int c)) (v6:=some (.int (c % 2147483647))) (xoN_nm h2) p2 (sayE' g2 p2)
  refine ⟨some d2,some (.int (c % 2147483647)),some (.int k),S3,?_,(x1.trans x2).trans x3⟩
  simp only [zC4,zHN,zPa]
  simp [a1,a2,h]
  simpa using e3
 ·have g:cl9 "Desk.say" [.ob 1,d] S1=.er "BadNote" S1:=by
   rcases g1 with g1 | ⟨m,xs,rfl,l,hm⟩
   ·exact sayE' g1 p1
   ·refine say_no (Nat.le_trans ?_ hm) l
    have:=congrArg List.length p
    rw [List.length_take] at this
    have h5:S5.length=2:=rfl
    omega
  obtain ⟨S3,e3,x3⟩:=zJ3 (v0:=v0) (v3:=v3) (v5:=some (.int c)) (v6:=some (.int (c % 2147483647))) (c := "BadNote") (k:=4) (by decide +kernel) p1 g
  refine ⟨some d,some (.int (c % 2147483647)),some (.int 4),S3,?_,x1.trans x3⟩
  simp only [zC4,zHN,zPa]
  simp [a1,h]
  simpa using e3
noncomputable def many:Str := "2 2: 0-1/0+ 0-1/0+ 0-1/0+ 0-1/0+ 0-1/0+ 0-1/0+ 0-1/0+ 0-1/0+ 0-1/0+ 0-1/0+ 0-1/0+ 0-1/0+ 0-1/0+ 0-1/0+ 0-1/0+ 0-1/0+"
theorem q_law:zAk tbX 40 "law"=runF 1 8 (zBK cl9):=by kernel_rfl
noncomputable abbrev ρ4 (sc:D) (v4 v5 v6 v7:Option D):Env1:=[some sc,some (.ob 1),some (.str zDQ),some (.str many),v4,v5,v6,v7]
theorem zO5 (ρ:Env1) (S:zA2):cBin oAdd (cCon (.str (Str.ofString "2 2:"))) (cBin zLg (cCon (.str (Str.ofString " 0-1/0+"))) (cCon (.int 16))) ρ S=.ok (.str many) S:=by kernel_rfl
theorem zOC (sc:D):iOr (iSeq (cLst (zA0 [(cBin oAdd (cCon (.str (Str.ofString "net a "))) (cVar 2)),(cCon (.str (Str.ofString "net b 3 2: 0-1/2+"))),(cBin oAdd (cCon (.str (Str.ofString "net m "))) (cVar 3)),(cCon (.str (Str.ofString "net w 2 7: 0-6/0+")))]))) (iTxt (cLst (zA0 [(cBin oAdd (cCon (.str (Str.ofString "net a "))) (cVar 2)),(cCon (.str (Str.ofString "net b 3 2: 0-1/2+"))),(cBin oAdd (cCon (.str (Str.ofString "net m "))) (cVar 3)),(cCon (.str (Str.ofString "net w 2 7: 0-6/0+")))])))
  (ρ4 sc none none none none) [.tb lamD,.dk []]=.ok (T4,[(2,T4)]) X0:=by kernel_rfl
theorem zMu (ns:List Int) (h:ns.length≤63) (v4 v5 v6 v7:Option D) (S:zA2):∃ n S1,iOr (iSeq (cBin oAdd (cSl oSl (cVar 0) zAs (zBp (cCon (.int 30)))) (cLst (zA0 [(cCon (.int 7))])))) (iTxt (cBin oAdd (cSl oSl (cVar 0) zAs (zBp (cCon (.int 30)))) (cLst (zA0 [(cCon (.int 7))])))) (ρ4 (.rol (ns.map D.int)) v4 v5 v6 v7) S=.ok ((ns.take 30++[7]).map D.int,[(n,(ns.take 30++[7]).map D.int)]) S1∧zA9 S1 n=some ((ns.take 30++[7]).map D.int)∧Ex S S1:=by
 have e1:oSl (.rol (ns.map D.int)) none (some 30) S=.ok (.lst S.length) (S++[.lst ((ns.map D.int).take 30)]):=by
  rw [show (ns.map D.int).take 30=cutD (ns.map D.int) none (some 30) from (zMf _ (k:=30) (by decide)).symm]; rfl
 obtain ⟨S1,h1⟩:∃ S1,S++[O.lst ((ns.map D.int).take 30)]=S1:=⟨_,rfl⟩
 have l1:zA9 S1 S.length=some ((ns.map D.int).take 30):=h1▸zAp _ _
 rw [h1] at e1
 obtain ⟨S2,h2⟩:∃ S2,S1++[O.lst [.int 7]]=S2:=⟨_,rfl⟩
 have l2:zA9 S2 S.length=some ((ns.map D.int).take 30):=h2▸zCW l1
 have l2':zA9 S2 S1.length=some [.int 7]:=h2▸zAp _ _
 have a:=zFN l2 l2' (Nat.le_trans (by rw [List.length_take,List.length_map]; exact Nat.add_le_add (Nat.min_le_left _ _) (Nat.le_refl _)) (show 30+1≤lim by decide))
 have e:(ns.map D.int).take 30++[.int 7]=(ns.take 30++[7]).map D.int:=by rw [List.map_append,List.map_take]; rfl
 rw [e] at a
 generalize (ns.take 30++[7]).map D.int=I at a ⊢
 obtain ⟨S3,h3⟩:∃ S3,S2++[O.lst I]=S3:=⟨_,rfl⟩
 have l3:zA9 S3 S2.length=some I:=h3▸zAp _ _
 rw [h3] at a
 refine ⟨S2.length,S3,?_,l3,(h1▸zB0 _ _:Ex S S1).trans ((h2▸zB0 _ _:Ex S1 S2).trans (h3▸zB0 _ _:Ex S2 S3))⟩
 unfold iOr
 simp [e1,h2,a,l3]
theorem zOd {sc:D}{v4 v5 v6 v7:Option D}{S:zA2} (p:Pre S):sRet (zDg (cBin oEq (cMth (cl9 "Desk.say") (cVar 1) (zA0 [(cCon (.str (Str.ofString "lets a 10")))])) (cCon (.str (Str.ofString "yes")))) (zDg (cBin oEq (cMth (cl9 "Desk.say") (cVar 1) (zA0 [(cCon (.str (Str.ofString "function a")))])) (cCon (.str (Str.ofString "1110")))) (cBin oEq (cMth (cl9 "Desk.say") (cVar 1) (zA0 [(cCon (.str (Str.ofString "shut w 00")))])) (cCon (.str (Str.ofString "none"))))))
  (ρ4 sc v4 v5 v6 v7) S=.rt (.bl true) S:=by
 have a1:cMth (cl9 "Desk.say") (cVar 1) (zA0 [(cCon (.str (Str.ofString "lets a 10")))]) (ρ4 sc v4 v5 v6 v7) S=.ok (.str (Str.ofString "yes")) S:=sayO' y_lets p
 have a2:cMth (cl9 "Desk.say") (cVar 1) (zA0 [(cCon (.str (Str.ofString "function a")))]) (ρ4 sc v4 v5 v6 v7) S=.ok (.str (Str.ofString "1110")) S:=sayO' y_fun p
 have a3:cMth (cl9 "Desk.say") (cVar 1) (zA0 [(cCon (.str (Str.ofString "shut w 00")))]) (ρ4 sc v4 v5 v6 v7) S=.ok (.str (Str.ofString "none")) S:=sayO' y_shut p
 simp [a1,a2,a3,oEq_str]
theorem pre4:Pre X4:=by
 have h:=x_ok
 simp only [Bool.and_eq_true] at h
 exact zG0 h.2
theorem law_run {sc:D}{v4:Option D}{items:List D}{w:zBM}{ρ':Env1}{S1 S2 S3:zA2}{d:D} (e1:zBo [(2,T4)] (gN 4) (zBH cl9) T4 (ρ4 sc none none none none) X0=.nx (ρ4 sc v4 none none none) S1)
  (e2:iOr (iSeq (cBin oAdd (cSl oSl (cVar 0) zAs (zBp (cCon (.int 30)))) (cLst (zA0 [(cCon (.int 7))])))) (iTxt (cBin oAdd (cSl oSl (cVar 0) zAs (zBp (cCon (.int 30)))) (cLst (zA0 [(cCon (.int 7))])))) (ρ4 sc v4 none none none) S1=.ok (items,w) S2)
  (e3:zBo w (gN 5) (zBI cl9) items (ρ4 sc v4 none none none) S2=.nx ρ' S3) (e4:sRet (zDg (cBin oEq (cMth (cl9 "Desk.say") (cVar 1) (zA0 [(cCon (.str (Str.ofString "lets a 10")))])) (cCon (.str (Str.ofString "yes")))) (zDg (cBin oEq (cMth (cl9 "Desk.say") (cVar 1) (zA0 [(cCon (.str (Str.ofString "function a")))])) (cCon (.str (Str.ofString "1110")))) (cBin oEq (cMth (cl9 "Desk.say") (cVar 1) (zA0 [(cCon (.str (Str.ofString "shut w 00")))])) (cCon (.str (Str.ofString "none")))))) ρ' S3=.rt d S3) :
  zBK cl9 [some sc,none,none,none,none,none,none,none] [.tb lamD]=.rt d S3:=by
 unfold zBK
 rw [zC4,show sAsg zK5 (gN 1) [some sc,none,none,none,none,none,none,none] [.tb lamD]=.nx [some sc,some (.ob 1),none,none,none,none,none,none] [.tb lamD,.dk []] from rfl,zKL]
 rw [zC4,show sAsg (cCon (.str (Str.ofString "2 3: 0-2/0+ 1-2/1- 0-1/0-"))) (gN 2) [some sc,some (.ob 1),none,none,none,none,none,none] [.tb lamD,.dk []]=.nx [some sc,some (.ob 1),some (.str zDQ),none,none,none,none,none] [.tb lamD,.dk []] from rfl,zKL]
 rw [zC4,zHN,zO5,zNw,gN_ev,zNw,zKL]
 rw [zC4,zKP]
 have f:=zOC sc
 unfold ρ4 at f e1 e2 e3
 simp only [List.set_cons_succ,List.set_cons_zero]
 rw [f,zNw]
 dsimp only
 rw [e1,zKL,zC4,zKP,e2,zNw]
 dsimp only
 rw [e3,zKL,zC4,e4,sb_rt]
theorem law94 (ns:List Int) (h:ns.length≤63):∃ S',zAk tbX 40 "law" [.rol (ns.map D.int)] [.tb lamD]=.ok (.bl true) S':=by
 obtain ⟨v4,e1⟩:=made (v0:=some (.rol (ns.map D.int))) (v2:=some (.str zDQ)) (v3:=some (.str many)) (v4:=none) (v5:=none) (v6:=none) (v7:=none)
 obtain ⟨n,S1,e2,l2,x2⟩:=zMu ns h v4 none none none X4
 obtain ⟨ρ',S2,e3,v4',v5',v6',v7',rfl,x3⟩:=zOa (w:=[(n,(ns.take 30++[7]).map D.int)]) (g:=gN 5) (b:=zBI cl9) (items:=(ns.take 30++[7]).map D.int)
  (fun _ ρ S=>∃ v4 v5 v6 v7,ρ=ρ4 (.rol (ns.map D.int)) v4 v5 v6 v7∧Ex S1 S) (ρ:=ρ4 (.rol (ns.map D.int)) v4 none none none) (S:=S1) (fun _ _ _ ⟨_,_,_,_,_,x⟩=>zQM (x.lst l2 fun z=>z)) ⟨_,_,_,_,rfl,Kp.refl _ _⟩ (fun i d ρ S hd hp=>by
   obtain ⟨u4,u5,u6,u7,rfl,x⟩:=hp
   obtain ⟨c,_,rfl⟩:=List.mem_map.mp (List.mem_of_getElem? hd)
   obtain ⟨w4,w6,w7,S',e,x'⟩:=zN8 (v0:=some (.rol (ns.map D.int))) (v3:=some (.str many)) (v4:=u4) (v6:=u6) (v7:=u7) (c:=c) (pre4.ex (x2.trans x))
   exact ⟨_,S,rfl,_,S',.inl e,w4,some (.int c),w6,w7,rfl,x.trans x'⟩)
 have p:=pre4.ex (x2.trans x3)
 exact ⟨S2,by rw [q_law]; exact zKQ rfl (law_run e1 e2 e3 (zOd p))⟩
end My
set_option maxHeartbeats 4000000
namespace My
open PySem L2
noncomputable def tbl:Tbl:=[(("is_whole":Str),(1,1,zDm)),
 (("is_bit":Str),(1,1,zGf)),
 (("is_contact":Str),(3,3,zCi)),
 (("is_net":Str),(1,4,zGe)),
 (("settings":Str),(1,3,zDi)),
 (("is_shut":Str),(2,2,zED)),
 (("shut_at":Str),(2,2,zEC)),
 (("places_from":Str),(2,5,zBS)),
 (("joins":Str),(1,1,zIC)),
 (("shut_contacts":Str),(2,2,zBf)),
 (("lets":Str),(2,2,zMU)),
 (("function_of":Str),(1,1,zBU)),
 (("moved_contact":Str),(2,2,zBg)),
 (("moved":Str),(2,2,zIB)),
 (("net_within":Str),(3,3,zCh)),
 (("in_row":Str),(2,5,zGg)),
 (("side_by_side":Str),(2,4,zBr)),
 (("refuse_no_contact":Str),(2,2,zAH)),
 (("cut":Str),(2,2,b_cut)),
 (("bridged":Str),(2,6,zEE)),
 (("contact_text":Str),(1,5,zBu)),
 (("net_text":Str),(1,3,zDj)),
 (("bits_text":Str),(1,1,zCG)),
 (("figure":Str),(1,1,zGh)),
 (("has_lengths_of_net":Str),(1,1,zAy)),
 (("contact_read":Str),(1,1,zBv)),
 (("net_read":Str),(1,3,zDk)),
 (("setting_read":Str),(1,1,zBs)),
 (("number_read":Str),(1,2,zBT)),
 (("name_read":Str),(1,1,zCE)),
 (("word_read":Str),(2,2,zCD)),
 (("words_of":Str),(1,1,zB4)),
 (("line_read":Str),(1,2,zCF)),
 (("refuse_unfit":Str),(1,1,zBt)),
 (("net_made":Str),(2,2,zDl)),
 (("shut_answer":Str),(2,3,zBR)),
 (("answer_at":Str),(3,3,zCI)),
 (("answer_of":Str),(2,2,zCH)),
 (("answer":Str),(2,2,zGi)),
 (("_law_bad":Str),(1,2,zBL)),
 (("_law_due":Str),(1,2,zAJ)),
 (("law":Str),(1,8,zBK)),
 (("Desk.with_nets":Str),(2,4,zAZ)),
 (("Desk.say":Str),(2,4,zAv))]
noncomputable def top (i:Nat):Stmt:=PySem.Challenge.pw_contactnets_k94_desk_refuses.main.body.getD i (.Pass ⟨0,0,0,0⟩)
theorem hk {f g:Nat→List D→M D} (h:f=g) (n:Nat):f n=g n:=congrFun h n
noncomputable def clsB (s:Stmt) (j:Nat):Stmt:=match s with
 | .ClassDef (body:=b) ..=>b.getD j (.Pass ⟨0,0,0,0⟩)
 | _=>.Pass ⟨0,0,0,0⟩
noncomputable abbrev zBC:Stmt:=top 10
noncomputable abbrev zCM:Stmt:=top 11
noncomputable abbrev zAX:Stmt:=top 12
noncomputable abbrev zCL:Stmt:=top 13
noncomputable abbrev zBy:Stmt:=top 14
noncomputable abbrev zC2:Stmt:=top 15
noncomputable abbrev zBZ:Stmt:=top 16
noncomputable abbrev zAL:Stmt:=top 17
noncomputable abbrev zDU:Stmt:=top 18
noncomputable abbrev zAq:Stmt:=top 19
noncomputable abbrev zGy:Stmt:=top 20
noncomputable abbrev zAN:Stmt:=top 21
noncomputable abbrev zAr:Stmt:=top 26
noncomputable abbrev zDT:Stmt:=top 27
noncomputable abbrev zAW:Stmt:=top 28
noncomputable abbrev zCN:Stmt:=top 29
noncomputable abbrev zAA:Stmt:=top 30
noncomputable abbrev zAh:Stmt:=top 32
noncomputable abbrev zKM:Stmt:=top 33
noncomputable abbrev zC3:Stmt:=top 34
noncomputable abbrev zAD:Stmt:=top 52
noncomputable abbrev zBz:Stmt:=top 53
noncomputable abbrev zB8:Stmt:=top 54
noncomputable abbrev zCO:Stmt:=top 55
noncomputable abbrev zAf:Stmt:=top 56
noncomputable abbrev zAE:Stmt:=top 57
noncomputable abbrev zBA:Stmt:=top 58
noncomputable abbrev zAB:Stmt:=top 75
noncomputable abbrev zAM:Stmt:=top 76
noncomputable abbrev zB6:Stmt:=top 77
noncomputable abbrev zB5:Stmt:=top 78
noncomputable abbrev zBx:Stmt:=top 79
noncomputable abbrev zB7:Stmt:=top 80
noncomputable abbrev zAC:Stmt:=top 81
noncomputable abbrev zBB:Stmt:=top 82
noncomputable abbrev zAK:Stmt:=top 83
noncomputable abbrev zBa:Stmt:=top 84
noncomputable abbrev zB9:Stmt:=top 86
noncomputable abbrev zCP:Stmt:=top 87
noncomputable abbrev zC1:Stmt:=top 94
noncomputable abbrev zC0:Stmt:=top 95
noncomputable abbrev zGz:Stmt:=top 96
noncomputable abbrev zAo:Stmt:=clsB (top 88) 1
noncomputable abbrev zBD:Stmt:=clsB (top 88) 2
noncomputable abbrev zAu:Stmt:=top 93
abbrev CKp (x:Str) (N:List Str) (st:Stmt) (b:CLL→CS):Prop:=(fun cl:CLL=>cSts (arT tbl) cl 60 ⟨N,(zA1 st).names,some x⟩ (zAc st))=fun cl=>some (b cl)
theorem zIb:fnOk ["thing"] ["thing"] (zA1 zBC)=true:=by decide +kernel
theorem zIl:CKp "is_whole" ["thing"] zBC zDm:=by kernel_rfl
theorem zLV:fnOk ["thing"] ["thing"] (zA1 zCM)=true:=by decide +kernel
theorem zMq:CKp "is_bit" ["thing"] zCM zGf:=by kernel_rfl
theorem zFY:fnOk ["switches","places","thing"] ["switches","places","thing"] (zA1 zAX)=true:=by decide +kernel
theorem zG7:CKp "is_contact" ["switches","places","thing"] zAX zCi:=by kernel_rfl
theorem zLU:fnOk ["thing","switches","places","contacts"] ["thing"] (zA1 zCL)=true:=by decide +kernel
theorem zMp:CKp "is_net" ["thing","switches","places","contacts"] zCL zGe:=by kernel_rfl
theorem zI7:fnOk ["switches","told","switch"] ["switches"] (zA1 zBy)=true:=by decide +kernel
theorem zIh:CKp "settings" ["switches","told","switch"] zBy zDi:=by kernel_rfl
theorem zJR:fnOk ["contact","setting"] ["contact","setting"] (zA1 zC2)=true:=by decide +kernel
theorem zK0:CKp "is_shut" ["contact","setting"] zC2 zED:=by kernel_rfl
theorem zJO:fnOk ["net","setting"] ["net","setting"] (zA1 zBZ)=true:=by decide +kernel
theorem zJX:CKp "shut_at" ["net","setting"] zBZ zEC:=by kernel_rfl
theorem zET:fnOk ["start","contacts","found","grown","contact"] ["start","contacts"] (zA1 zAL)=true:=by decide +kernel
theorem zEZ:CKp "places_from" ["start","contacts","found","grown","contact"] zAL zBS:=by kernel_rfl
theorem zOE:fnOk ["contacts"] ["contacts"] (zA1 zDU)=true:=by decide +kernel
theorem zOS:CKp "joins" ["contacts"] zDU zIC:=by kernel_rfl
theorem zDC:fnOk ["net","setting"] ["net","setting"] (zA1 zAq)=true:=by decide +kernel
theorem zDE:CKp "shut_contacts" ["net","setting"] zAq zBf:=by kernel_rfl
theorem fk_lets:fnOk ["net","setting"] ["net","setting"] (zA1 zGy)=true:=by decide +kernel
theorem ck_lets:CKp "lets" ["net","setting"] zGy zMU:=by kernel_rfl
theorem zEW:fnOk ["net"] ["net"] (zA1 zAN)=true:=by decide +kernel
theorem zF2:CKp "function_of" ["net"] zAN zBU:=by kernel_rfl
theorem zDD:fnOk ["contact","new"] ["contact","new"] (zA1 zAr)=true:=by decide +kernel
theorem zDF:CKp "moved_contact" ["contact","new"] zAr zBg:=by kernel_rfl
theorem zOD:fnOk ["contacts","new"] ["contacts","new"] (zA1 zDT)=true:=by decide +kernel
theorem zOR:CKp "moved" ["contacts","new"] zDT zIB:=by kernel_rfl
theorem zFX:fnOk ["switches","places","contacts"] ["switches","places","contacts"] (zA1 zAW)=true:=by decide +kernel
theorem zG6:CKp "net_within" ["switches","places","contacts"] zAW zCh:=by kernel_rfl
theorem zLW:fnOk ["one","other","middle","first","second"] ["one","other"] (zA1 zCN)=true:=by decide +kernel
theorem zMr:CKp "in_row" ["one","other","middle","first","second"] zCN zGg:=by kernel_rfl
theorem zEg:fnOk ["one","other","places","second"] ["one","other"] (zA1 zAA)=true:=by decide +kernel
theorem zEo:CKp "side_by_side" ["one","other","places","second"] zAA zBr:=by kernel_rfl
theorem zCn:fnOk ["net","number"] ["net","number"] (zA1 zAh)=true:=by decide +kernel
theorem zCo:CKp "refuse_no_contact" ["net","number"] zAh zAH:=by kernel_rfl
theorem fk_cut:fnOk ["net","number"] ["net","number"] (zA1 zKM)=true:=by decide +kernel
theorem ck_cut:CKp "cut" ["net","number"] zKM b_cut:=by kernel_rfl
theorem zJS:fnOk ["net","number","lesser","greater","new","left"] ["net","number"] (zA1 zC3)=true:=by decide +kernel
theorem zK1:CKp "bridged" ["net","number","lesser","greater","new","left"] zC3 zEE:=by kernel_rfl
theorem zEj:fnOk ["contact","a","b","switch","sign"] ["contact"] (zA1 zAD)=true:=by decide +kernel
theorem zEr:CKp "contact_text" ["contact","a","b","switch","sign"] zAD zBu:=by kernel_rfl
theorem zI8:fnOk ["net","switches","places"] ["net"] (zA1 zBz)=true:=by decide +kernel
theorem zIi:CKp "net_text" ["net","switches","places"] zBz zDj:=by kernel_rfl
theorem zH1:fnOk ["bits"] ["bits"] (zA1 zB8)=true:=by decide +kernel
theorem zHd:CKp "bits_text" ["bits"] zB8 zCG:=by kernel_rfl
theorem zLX:fnOk ["sign"] ["sign"] (zA1 zCO)=true:=by decide +kernel
theorem zMs:CKp "figure" ["sign"] zCO zGh:=by kernel_rfl
theorem zCb:fnOk ["words"] ["words"] (zA1 zAf)=true:=by decide +kernel
theorem zCf:CKp "has_lengths_of_net" ["words"] zAf zAy:=by kernel_rfl
theorem zEk:fnOk ["word"] ["word"] (zA1 zAE)=true:=by decide +kernel
theorem zEs:CKp "contact_read" ["word"] zAE zBv:=by kernel_rfl
theorem zI9:fnOk ["text","words","net"] ["text"] (zA1 zBA)=true:=by decide +kernel
theorem zIj:CKp "net_read" ["text","words","net"] zBA zDk:=by kernel_rfl
theorem zEh:fnOk ["word"] ["word"] (zA1 zAB)=true:=by decide +kernel
theorem zEp:CKp "setting_read" ["word"] zAB zBs:=by kernel_rfl
theorem zEU:fnOk ["word","number"] ["word"] (zA1 zAM)=true:=by decide +kernel
theorem zF0:CKp "number_read" ["word","number"] zAM zBT:=by kernel_rfl
theorem zGZ:fnOk ["word"] ["word"] (zA1 zB6)=true:=by decide +kernel
theorem zHb:CKp "name_read" ["word"] zB6 zCE:=by kernel_rfl
theorem zGY:fnOk ["kind","word"] ["kind","word"] (zA1 zB5)=true:=by decide +kernel
theorem zHa:CKp "word_read" ["kind","word"] zB5 zCD:=by kernel_rfl
theorem zI6:fnOk ["line"] ["line"] (zA1 zBx)=true:=by decide +kernel
theorem zIg:CKp "words_of" ["line"] zBx zB4:=by kernel_rfl
theorem zH0:fnOk ["words","kinds"] ["words"] (zA1 zB7)=true:=by decide +kernel
theorem zHc:CKp "line_read" ["words","kinds"] zB7 zCF:=by kernel_rfl
theorem zEi:fnOk ["asked"] ["asked"] (zA1 zAC)=true:=by decide +kernel
theorem zEq:CKp "refuse_unfit" ["asked"] zAC zBt:=by kernel_rfl
theorem zIa:fnOk ["verb","asked"] ["verb","asked"] (zA1 zBB)=true:=by decide +kernel
theorem zIk:CKp "net_made" ["verb","asked"] zBB zDl:=by kernel_rfl
theorem zES:fnOk ["net","setting","numbers"] ["net","setting"] (zA1 zAK)=true:=by decide +kernel
theorem zEY:CKp "shut_answer" ["net","setting","numbers"] zAK zBR:=by kernel_rfl
theorem zH3:fnOk ["verb","net","setting"] ["verb","net","setting"] (zA1 zBa)=true:=by decide +kernel
theorem zHf:CKp "answer_at" ["verb","net","setting"] zBa zCI:=by kernel_rfl
theorem zH2:fnOk ["verb","net"] ["verb","net"] (zA1 zB9)=true:=by decide +kernel
theorem zHe:CKp "answer_of" ["verb","net"] zB9 zCH:=by kernel_rfl
theorem zLY:fnOk ["verb","asked"] ["verb","asked"] (zA1 zCP)=true:=by decide +kernel
theorem zMt:CKp "answer" ["verb","asked"] zCP zGi:=by kernel_rfl
theorem zJQ:fnOk ["_law_k","_law_some"] ["_law_k"] (zA1 zC1)=true:=by decide +kernel
theorem zJZ:CKp "_law_bad" ["_law_k","_law_some"] zC1 zBL:=by kernel_rfl
theorem zJP:fnOk ["_law_k","_law_some"] ["_law_k"] (zA1 zC0)=true:=by decide +kernel
theorem zJY:CKp "_law_due" ["_law_k","_law_some"] zC0 zAJ:=by kernel_rfl
theorem zPr:fnOk ["_law_script","_law_desk","_law_shown","_law_many","_law_line","_law_cell","_law_number","_law_due_here"] ["_law_script"] (zA1 zGz)=true:=by decide +kernel
theorem zPv:CKp "law" ["_law_script","_law_desk","_law_shown","_law_many","_law_line","_law_cell","_law_number","_law_due_here"] zGz zBK:=by kernel_rfl
theorem zDc:fnOk ["self","asked","told","kind"] ["self","asked"] (zA1 zAo)=true:=by decide +kernel
theorem zDf:CKp "Desk.with_nets" ["self","asked","told","kind"] zAo zAZ:=by kernel_rfl
theorem zIc:fnOk ["self","line","words","asked"] ["self","line"] (zA1 zBD)=true:=by decide +kernel
theorem zIm:CKp "Desk.say" ["self","line","words","asked"] zBD zAv:=by kernel_rfl
theorem zOc (ns:List Int) (h:ns.length≤63):∃ S',zAk tbl 40 "law" [.rol (ns.map D.int)] [.tb lamD]=.ok (.bl true) S':=law94 ns h
def DF (K:W.Frag) (n:Str) (st:Stmt):Prop:=∃ (f:Addr) (od an:Option Addr) (sl:Array (Option Value)) (oc kV dc pm cd ct:Value),W.nsIn K mainGlobals n=some (some (.ref f))∧K.lookup f=some ⟨oc,od,.func (W.fnOf n n (zAY st) (zAc st) (zA1 st) .none kV dc pm an cd ct),sl⟩∧W.codeIn K cd n=true∧W.keepIn K (.ref f)=true
theorem mkDF {K:W.Frag}{n:Str}{st:Stmt}{f:Addr}{od an:Option Addr}{sl:Array (Option Value)}{oc kV dc pm cd ct:Value} (a:W.nsIn K mainGlobals n=some (some (.ref f))) (l:K.lookup f=some ⟨oc,od,.func (W.fnOf n n (zAY st) (zAc st) (zA1 st) .none kV dc pm an cd ct),sl⟩) (c:W.codeIn K cd n=true) (k:W.keepIn K (.ref f)=true):DF K n st:=⟨f,od,an,sl,oc,kV,dc,pm,cd,ct,a,l,c,k⟩
theorem DF.in {K:W.Frag}{h:Heap}{mg:Str→Option Value}{n:Str}{st:Stmt} (d:DF K n st) (X:K.In h) (G:h.Ns mainGlobals mg):∃ (f:Addr) (kV dc pm:Value) (an:Option Addr) (cd ct:Value),mg n=some (.ref f)∧Fun K n n st f (W.fnOf n n (zAY st) (zAc st) (zA1 st) .none kV dc pm an cd ct):=by
 obtain ⟨f,od,an,sl,oc,kV,dc,pm,cd,ct,a,l,c,k⟩:=d
 exact ⟨f,kV,dc,pm,an,cd,ct,W.mg_of X G a,zLR l c k⟩
noncomputable def ZN (K:W.Frag):List Str→Prop
 | []=>True
 | x::r=>W.nsIn K mainGlobals x=some none∧ZN K r
theorem ZN.none {K:W.Frag}{h:Heap}{mg:Str→Option Value} (X:K.In h) (G:h.Ns mainGlobals mg):∀ {l:List Str},ZN K l→zGl mg l
 | [],_=>True.intro
 | _::_,z=>⟨W.mg_none_of X G z.1,z.2.none X G⟩
noncomputable def txIn (K:W.Frag) (x z:Str):Bool:=match W.nsIn K mainGlobals x with
 | some (some (.str y _))=>decide (y=z)
 | _=>false
noncomputable def txAll (K:W.Frag):Bool:=txL.all (fun p=>txIn K p.1 p.2)
theorem zP1 {K:W.Frag}{h:Heap}{mg:Str→Option Value} (X:K.In h) (G:h.Ns mainGlobals mg) (a:txAll K=true) (x z:Str) (e:txL.lookup x=some z):∃ t,mg x=some (.str z t):=by
 have q:=List.all_eq_true.mp a _ (zFq e)
 unfold txIn at q
 dsimp only at q
 split at q
 ·rename_i y t hy
  rw [of_decide_eq_true q] at hy
  exact ⟨t,W.mg_of X G hy⟩
 ·cases q
def BP (st:Stmt) (n:Str) (ps:List Str) (kV doc pm:Value) (an:Option Addr) (cdv ct:Value) (us:List Value):Prop:=bindArgs (W.fnOf n n (zAY st) (zAc st) (zA1 st) .none kV doc pm an cdv ct) ⟨us,[]⟩=pure (ps.zip us)
def BF (st:Stmt) (n:Str) (ps:List Str):Prop:=∀ (kV doc pm:Value) (an:Option Addr) (cdv ct:Value) (us:List Value),us.length=ps.length→BP st n ps kV doc pm an cdv ct us
theorem dIn {K:W.Frag}{h:Heap}{mg:Str→Option Value}{ar:Str→Option Nat}{x:Str}{st:Stmt}{N ps:List Str}{fuel np nN:Nat}{b:CLL→CS} (d:DF K x st) (X:K.In h) (G:h.Ns mainGlobals mg) (hb:BF st x ps) (hs:fnOk N ps (zA1 st)=true)
  (hc:(fun cl:CLL=>cSts ar cl fuel ⟨N,(zA1 st).names,some x⟩ (zAc st))=fun cl=>some (b cl)) (h1:ps.length=np:=by rfl) (h2:N.length=nN:=by rfl):zIG K mg ar x (np,nN,b):=by
 obtain ⟨_,_,_,_,_,_,_,m,F⟩:=d.in X G
 exact def_in F m (F.binds (ps:=ps) hb) hs hc h1 h2
theorem usC {n:Nat}:∀ us:List Value,us.length=n+1→∃ a r,us=a::r∧r.length=n
 | a::r,h=>⟨a,r,rfl,Nat.succ.inj h⟩
theorem us0 {P:List Value→Prop} (h:P []) (us:List Value) (hl:us.length=0):P us:=by
 rw [List.eq_nil_of_length_eq_zero hl]; exact h
theorem us1 {P:List Value→Prop} (h:∀ a0:Value,P [a0]) (us:List Value) (hl:us.length=1):P us:=by
 obtain ⟨a,r,rfl,hq⟩:=usC us hl
 exact us0 (P:=fun r=>P (a::r)) (h a) r hq
theorem us2 {P:List Value→Prop} (h:∀ a0 a1:Value,P [a0,a1]) (us:List Value) (hl:us.length=2):P us:=by
 obtain ⟨a,r,rfl,hq⟩:=usC us hl
 exact us1 (P:=fun r=>P (a::r)) (h a) r hq
theorem us3 {P:List Value→Prop} (h:∀ a0 a1 a2:Value,P [a0,a1,a2]) (us:List Value) (hl:us.length=3):P us:=by
 obtain ⟨a,r,rfl,hq⟩:=usC us hl
 exact us2 (P:=fun r=>P (a::r)) (h a) r hq
theorem zIz:BF zBC "is_whole" ["thing"]:=fun kV doc pm an cdv ct=>us1 (P:=BP zBC "is_whole" ["thing"] kV doc pm an cdv ct) (fun _=>rfl)
theorem zMO:BF zCM "is_bit" ["thing"]:=fun kV doc pm an cdv ct=>us1 (P:=BP zCM "is_bit" ["thing"] kV doc pm an cdv ct) (fun _=>rfl)
theorem zGd:BF zAX "is_contact" ["switches","places","thing"]:=fun kV doc pm an cdv ct=>us3 (P:=BP zAX "is_contact" ["switches","places","thing"] kV doc pm an cdv ct) (fun _ _ _=>rfl)
theorem zMN:BF zCL "is_net" ["thing"]:=fun kV doc pm an cdv ct=>us1 (P:=BP zCL "is_net" ["thing"] kV doc pm an cdv ct) (fun _=>rfl)
theorem zIv:BF zBy "settings" ["switches"]:=fun kV doc pm an cdv ct=>us1 (P:=BP zBy "settings" ["switches"] kV doc pm an cdv ct) (fun _=>rfl)
theorem zKd:BF zC2 "is_shut" ["contact","setting"]:=fun kV doc pm an cdv ct=>us2 (P:=BP zC2 "is_shut" ["contact","setting"] kV doc pm an cdv ct) (fun _ _=>rfl)
theorem zKa:BF zBZ "shut_at" ["net","setting"]:=fun kV doc pm an cdv ct=>us2 (P:=BP zBZ "shut_at" ["net","setting"] kV doc pm an cdv ct) (fun _ _=>rfl)
theorem zF4:BF zAL "places_from" ["start","contacts"]:=fun kV doc pm an cdv ct=>us2 (P:=BP zAL "places_from" ["start","contacts"] kV doc pm an cdv ct) (fun _ _=>rfl)
theorem zOZ:BF zDU "joins" ["contacts"]:=fun kV doc pm an cdv ct=>us1 (P:=BP zDU "joins" ["contacts"] kV doc pm an cdv ct) (fun _=>rfl)
theorem zDG:BF zAq "shut_contacts" ["net","setting"]:=fun kV doc pm an cdv ct=>us2 (P:=BP zAq "shut_contacts" ["net","setting"] kV doc pm an cdv ct) (fun _ _=>rfl)
theorem bf_lets:BF zGy "lets" ["net","setting"]:=fun kV doc pm an cdv ct=>us2 (P:=BP zGy "lets" ["net","setting"] kV doc pm an cdv ct) (fun _ _=>rfl)
theorem zF7:BF zAN "function_of" ["net"]:=fun kV doc pm an cdv ct=>us1 (P:=BP zAN "function_of" ["net"] kV doc pm an cdv ct) (fun _=>rfl)
theorem zDH:BF zAr "moved_contact" ["contact","new"]:=fun kV doc pm an cdv ct=>us2 (P:=BP zAr "moved_contact" ["contact","new"] kV doc pm an cdv ct) (fun _ _=>rfl)
theorem zOY:BF zDT "moved" ["contacts","new"]:=fun kV doc pm an cdv ct=>us2 (P:=BP zDT "moved" ["contacts","new"] kV doc pm an cdv ct) (fun _ _=>rfl)
theorem zGc:BF zAW "net_within" ["switches","places","contacts"]:=fun kV doc pm an cdv ct=>us3 (P:=BP zAW "net_within" ["switches","places","contacts"] kV doc pm an cdv ct) (fun _ _ _=>rfl)
theorem zMP:BF zCN "in_row" ["one","other"]:=fun kV doc pm an cdv ct=>us2 (P:=BP zCN "in_row" ["one","other"] kV doc pm an cdv ct) (fun _ _=>rfl)
theorem zEx:BF zAA "side_by_side" ["one","other"]:=fun kV doc pm an cdv ct=>us2 (P:=BP zAA "side_by_side" ["one","other"] kV doc pm an cdv ct) (fun _ _=>rfl)
theorem zCp:BF zAh "refuse_no_contact" ["net","number"]:=fun kV doc pm an cdv ct=>us2 (P:=BP zAh "refuse_no_contact" ["net","number"] kV doc pm an cdv ct) (fun _ _=>rfl)
theorem bf_cut:BF zKM "cut" ["net","number"]:=fun kV doc pm an cdv ct=>us2 (P:=BP zKM "cut" ["net","number"] kV doc pm an cdv ct) (fun _ _=>rfl)
theorem zKe:BF zC3 "bridged" ["net","number"]:=fun kV doc pm an cdv ct=>us2 (P:=BP zC3 "bridged" ["net","number"] kV doc pm an cdv ct) (fun _ _=>rfl)
theorem zEA:BF zAD "contact_text" ["contact"]:=fun kV doc pm an cdv ct=>us1 (P:=BP zAD "contact_text" ["contact"] kV doc pm an cdv ct) (fun _=>rfl)
theorem zIw:BF zBz "net_text" ["net"]:=fun kV doc pm an cdv ct=>us1 (P:=BP zBz "net_text" ["net"] kV doc pm an cdv ct) (fun _=>rfl)
theorem zHy:BF zB8 "bits_text" ["bits"]:=fun kV doc pm an cdv ct=>us1 (P:=BP zB8 "bits_text" ["bits"] kV doc pm an cdv ct) (fun _=>rfl)
theorem zMQ:BF zCO "figure" ["sign"]:=fun kV doc pm an cdv ct=>us1 (P:=BP zCO "figure" ["sign"] kV doc pm an cdv ct) (fun _=>rfl)
theorem zCg:BF zAf "has_lengths_of_net" ["words"]:=fun kV doc pm an cdv ct=>us1 (P:=BP zAf "has_lengths_of_net" ["words"] kV doc pm an cdv ct) (fun _=>rfl)
theorem zEB:BF zAE "contact_read" ["word"]:=fun kV doc pm an cdv ct=>us1 (P:=BP zAE "contact_read" ["word"] kV doc pm an cdv ct) (fun _=>rfl)
theorem zIx:BF zBA "net_read" ["text"]:=fun kV doc pm an cdv ct=>us1 (P:=BP zBA "net_read" ["text"] kV doc pm an cdv ct) (fun _=>rfl)
theorem zEy:BF zAB "setting_read" ["word"]:=fun kV doc pm an cdv ct=>us1 (P:=BP zAB "setting_read" ["word"] kV doc pm an cdv ct) (fun _=>rfl)
theorem zF5:BF zAM "number_read" ["word"]:=fun kV doc pm an cdv ct=>us1 (P:=BP zAM "number_read" ["word"] kV doc pm an cdv ct) (fun _=>rfl)
theorem zHw:BF zB6 "name_read" ["word"]:=fun kV doc pm an cdv ct=>us1 (P:=BP zB6 "name_read" ["word"] kV doc pm an cdv ct) (fun _=>rfl)
theorem zHv:BF zB5 "word_read" ["kind","word"]:=fun kV doc pm an cdv ct=>us2 (P:=BP zB5 "word_read" ["kind","word"] kV doc pm an cdv ct) (fun _ _=>rfl)
theorem zIu:BF zBx "words_of" ["line"]:=fun kV doc pm an cdv ct=>us1 (P:=BP zBx "words_of" ["line"] kV doc pm an cdv ct) (fun _=>rfl)
theorem zHx:BF zB7 "line_read" ["words"]:=fun kV doc pm an cdv ct=>us1 (P:=BP zB7 "line_read" ["words"] kV doc pm an cdv ct) (fun _=>rfl)
theorem zEz:BF zAC "refuse_unfit" ["asked"]:=fun kV doc pm an cdv ct=>us1 (P:=BP zAC "refuse_unfit" ["asked"] kV doc pm an cdv ct) (fun _=>rfl)
theorem zIy:BF zBB "net_made" ["verb","asked"]:=fun kV doc pm an cdv ct=>us2 (P:=BP zBB "net_made" ["verb","asked"] kV doc pm an cdv ct) (fun _ _=>rfl)
theorem zF3:BF zAK "shut_answer" ["net","setting"]:=fun kV doc pm an cdv ct=>us2 (P:=BP zAK "shut_answer" ["net","setting"] kV doc pm an cdv ct) (fun _ _=>rfl)
theorem zHA:BF zBa "answer_at" ["verb","net","setting"]:=fun kV doc pm an cdv ct=>us3 (P:=BP zBa "answer_at" ["verb","net","setting"] kV doc pm an cdv ct) (fun _ _ _=>rfl)
theorem zHz:BF zB9 "answer_of" ["verb","net"]:=fun kV doc pm an cdv ct=>us2 (P:=BP zB9 "answer_of" ["verb","net"] kV doc pm an cdv ct) (fun _ _=>rfl)
theorem zMR:BF zCP "answer" ["verb","asked"]:=fun kV doc pm an cdv ct=>us2 (P:=BP zCP "answer" ["verb","asked"] kV doc pm an cdv ct) (fun _ _=>rfl)
theorem zKc:BF zC1 "_law_bad" ["_law_k"]:=fun kV doc pm an cdv ct=>us1 (P:=BP zC1 "_law_bad" ["_law_k"] kV doc pm an cdv ct) (fun _=>rfl)
theorem zKb:BF zC0 "_law_due" ["_law_k"]:=fun kV doc pm an cdv ct=>us1 (P:=BP zC0 "_law_due" ["_law_k"] kV doc pm an cdv ct) (fun _=>rfl)
theorem bf_law:BF zGz "law" ["_law_script"]:=fun kV doc pm an cdv ct=>us1 (P:=BP zGz "law" ["_law_script"] kV doc pm an cdv ct) (fun _=>rfl)
theorem zF6:BF zAu "_law_refused" ["_law_call"]:=fun kV doc pm an cdv ct=>us1 (P:=BP zAu "_law_refused" ["_law_call"] kV doc pm an cdv ct) (fun _=>rfl)
theorem zEV:fnOk ["_law_call","_law_error","e","_law_sorts"] ["_law_call"] (zA1 zAu)=true:=by decide +kernel
theorem zF1:cSts (fun _=>none) (fun _ _ _=>.bad) 60 ⟨["_law_call","_law_error","e","_law_sorts"],(zA1 zAu).names,some "_law_refused"⟩ ((zAc zAu).drop 2)=some rfB:=by kernel_rfl
noncomputable abbrev zBP:Stmt:=clsB (top 88) 0
def MF (K:W.Frag) (C:Addr) (m q:Str) (st:Stmt):Prop:=∃ (f:Addr) (od an:Option Addr) (sl:Array (Option Value)) (oc kV dc pm cd ct:Value),W.findIn K (.ref C) m=some (some (.ref f))∧W.isFn K (.ref f)=true∧K.lookup f=some ⟨oc,od,.func (W.fnOf m q (zAY st) (zAc st) (zA1 st) .none kV dc pm an cd ct),sl⟩∧W.codeIn K cd q=true∧W.keepIn K (.ref f)=true
theorem mkMF {K:W.Frag}{C:Addr}{m q:Str}{st:Stmt}{f:Addr}{od an:Option Addr}{sl:Array (Option Value)}{oc kV dc pm cd ct:Value} (a:W.findIn K (.ref C) m=some (some (.ref f))) (i:W.isFn K (.ref f)=true) (l:K.lookup f=some ⟨oc,od,.func (W.fnOf m q (zAY st) (zAc st) (zA1 st) .none kV dc pm an cd ct),sl⟩) (c:W.codeIn K cd q=true) (k:W.keepIn K (.ref f)=true):MF K C m q st:=⟨f,od,an,sl,oc,kV,dc,pm,cd,ct,a,i,l,c,k⟩
def BPm (st:Stmt) (n q:Str) (ps:List Str) (kV doc pm:Value) (an:Option Addr) (cdv ct:Value) (us:List Value):Prop:=bindArgs (W.fnOf n q (zAY st) (zAc st) (zA1 st) .none kV doc pm an cdv ct) ⟨us,[]⟩=pure (ps.zip us)
def BFm (st:Stmt) (n q:Str) (ps:List Str):Prop:=∀ (kV doc pm:Value) (an:Option Addr) (cdv ct:Value) (us:List Value),us.length=ps.length→BPm st n q ps kV doc pm an cdv ct us
theorem mIn {K:W.Frag}{ar:Str→Option Nat}{C:Addr}{m q:Str}{st:Stmt}{N ps:List Str}{fuel np nN:Nat}{b:CLL→CS} (d:MF K C m q st) (dc:DkC K C) (cl:Cls K C) (hb:BFm st m q ps) (hs:fnOk N ps (zA1 st)=true) (n1:m ≠ "kept") (n2:q≠lamD)
  (hc:(fun cl:CLL=>cSts ar cl fuel ⟨N,(zA1 st).names,some q⟩ (zAc st))=fun cl=>some (b cl)) (h1:ps.length=np:=by rfl) (h2:N.length=nN:=by rfl):zHD K ar m q (np,nN,b):=by
 obtain ⟨f,od,an,sl,oc,kV,dcv,pm,cd,ct,a,i,l,c,k⟩:=d
 have F:=zLR (st:=st) l c k
 exact ⟨st,f,_,N,ps,fuel,C,F,dc,cl,⟨a,i,k⟩,F.binds (ps:=ps) hb,hs,h1,h2,n1,n2,fun cl=>congrFun hc cl⟩
theorem iniIn {K:W.Frag}{mg:Str→Option Value}{C:Addr}{q:Str}{st:Stmt}{p1 p2 p3 p4:Pos} (d:MF K C "__init__" q st) (cl:Cls K C) (no:zBW K C "kept") (m:mg "Desk"=some (.ref C)) (mk:W.makesIn K C=true) (kc:W.keepIn K (.ref C)=true) (hb:BFm st "__init__" q ["self"]) (hs:fnOk ["self"] ["self"] (zA1 st)=true) (hy:zAc st=zI3 "kept" p1 p2 p3 p4) (hl:(zA1 st).names.lookup ("self":Str)=some NameKind.local):∃ g,DkOk K mg "Desk" "kept" C g:=by
 obtain ⟨f,od,an,sl,oc,kV,dcv,pm,cd,ct,a,i,l,c,k⟩:=d
 have F:=zLR (st:=st) l c k
 exact ⟨f,cl,no,m,⟨mk,a,i,kc⟩,q,st,_,p1,p2,p3,p4,F,zDb hs,F.binds (ps:=["self"]) hb,hy,hl⟩
theorem zHB:BFm zBP "__init__" "Desk.__init__" ["self"]:=fun kV doc pm an cdv ct=>us1 (P:=BPm zBP "__init__" "Desk.__init__" ["self"] kV doc pm an cdv ct) (fun _=>rfl)
theorem zDh:BFm zAo "with_nets" "Desk.with_nets" ["self","asked"]:=fun kV doc pm an cdv ct=>us2 (P:=BPm zAo "with_nets" "Desk.with_nets" ["self","asked"] kV doc pm an cdv ct) (fun _ _=>rfl)
theorem zIA:BFm zBD "say" "Desk.say" ["self","line"]:=fun kV doc pm an cdv ct=>us2 (P:=BPm zBD "say" "Desk.say" ["self","line"] kV doc pm an cdv ct) (fun _ _=>rfl)
theorem zH4:fnOk ["self"] ["self"] (zA1 zBP)=true:=by decide +kernel
theorem all_mk {l:W.OpenLaw}{w:World}{K:W.Frag}{h:Heap}{mg:Str→Option Value}{fa c T C CD FA:Addr} (X:K.In h) (G:h.Ns mainGlobals mg) (hfa:mg "law"=some (.ref fa)) (tab:W.tabIn K lamD=some (c,T))
  (d1:DF K "is_whole" zBC) (d2:DF K "is_bit" zCM) (d3:DF K "is_contact" zAX) (d4:DF K "is_net" zCL) (d5:DF K "settings" zBy) (d6:DF K "is_shut" zC2) (d7:DF K "shut_at" zBZ) (d8:DF K "places_from" zAL) (d9:DF K "joins" zDU) (d10:DF K "shut_contacts" zAq) (d11:DF K "lets" zGy) (d12:DF K "function_of" zAN) (d13:DF K "moved_contact" zAr) (d14:DF K "moved" zDT) (d15:DF K "net_within" zAW) (d16:DF K "in_row" zCN) (d17:DF K "side_by_side" zAA) (d18:DF K "refuse_no_contact" zAh) (d19:DF K "cut" zKM) (d20:DF K "bridged" zC3) (d21:DF K "contact_text" zAD) (d22:DF K "net_text" zBz) (d23:DF K "bits_text" zB8) (d24:DF K "figure" zCO) (d25:DF K "has_lengths_of_net" zAf) (d26:DF K "contact_read" zAE) (d27:DF K "net_read" zBA) (d28:DF K "setting_read" zAB) (d29:DF K "number_read" zAM) (d30:DF K "name_read" zB6) (d31:DF K "word_read" zB5) (d32:DF K "words_of" zBx) (d33:DF K "line_read" zB7) (d34:DF K "refuse_unfit" zAC) (d35:DF K "net_made" zBB) (d36:DF K "shut_answer" zAK) (d37:DF K "answer_at" zBa) (d38:DF K "answer_of" zB9) (d39:DF K "answer" zCP) (d40:DF K "_law_bad" zC1) (d41:DF K "_law_due" zC0) (d42:DF K "law" zGz) (dt:DF K "_law_refused" zAu) (z:ZN K bltL) (tx:txAll K=true) (xk:zFZ K=true) (xs:exKs K=true) (xg:W.nsIn K mainGlobals "NetError"=some (some (.ref C))) (xn:exNet K C=true) (xv:W.nsIn K mainGlobals "ValueError"=some none)
  (aC:W.nsIn K mainGlobals "Desk"=some (some (.ref CD))) (m0:MF K CD "__init__" "Desk.__init__" zBP) (m1:MF K CD "with_nets" "Desk.with_nets" zAo) (m2:MF K CD "say" "Desk.say" zBD)
  (pg:W.plainGet K CD Str.empty=true) (hd:W.hasDictIn K CD=true) (po:W.plainOver K CD=true) (sa:W.findIn K (.ref CD) "__setattr__"=some (some (.builtin "object.__setattr__"))) (mk:W.makesIn K CD=true) (kc:W.keepIn K (.ref CD)=true) (nK:W.findIn K (.ref CD) "kept"=some none)
  (fN:W.nsIn K mainGlobals "FORMS"=some (some (.ref FA))) (fB:fmB K FA=true) (fH:fmHs K FA=zCY.map fun p=>hashStr w p.1)
  : ∃ fd:FuncData,(∀ (s:Shared) (v:Value),BindsTo s fd ⟨[v],[]⟩ [("_law_script",v)])∧∀ base:Heap,K.In base→base.Ns mainGlobals mg→W.CodeHd base c T→base.BuiltinsAt mg T→mainGlobals≠T→FnOk l.prog w K mg base (CX1 l.prog w) (3*40) fa fd ["_law_script"] (spL K):=by
 obtain ⟨_,kV,dc,pm,an,cd,ct,m,F⟩:=d42.in X G
 have e:=hfa.symm.trans m
 cases e
 have A:AllM K mg (arT tbl) tbl:=And.intro (Or.inr (dIn d1 X G zIz zIb zIl)) (And.intro (Or.inr (dIn d2 X G zMO zLV zMq)) (And.intro (Or.inr (dIn d3 X G zGd zFY zG7)) (And.intro (Or.inr (dIn d4 X G zMN zLU zMp)) (And.intro (Or.inr (dIn d5 X G zIv zI7 zIh)) (And.intro (Or.inr (dIn d6 X G zKd zJR zK0)) (And.intro (Or.inr (dIn d7 X G zKa zJO zJX)) (And.intro (Or.inr (dIn d8 X G zF4 zET zEZ)) (And.intro (Or.inr (dIn d9 X G zOZ zOE zOS)) (And.intro (Or.inr (dIn d10 X G zDG zDC zDE)) (And.intro (Or.inr (dIn d11 X G bf_lets fk_lets ck_lets)) (And.intro (Or.inr (dIn d12 X G zF7 zEW zF2)) (And.intro (Or.inr (dIn d13 X G zDH zDD zDF)) (And.intro (Or.inr (dIn d14 X G zOY zOD zOR)) (And.intro (Or.inr (dIn d15 X G zGc zFX zG6)) (And.intro (Or.inr (dIn d16 X G zMP zLW zMr)) (And.intro (Or.inr (dIn d17 X G zEx zEg zEo)) (And.intro (Or.inr (dIn d18 X G zCp zCn zCo)) (And.intro (Or.inr (dIn d19 X G bf_cut fk_cut ck_cut)) (And.intro (Or.inr (dIn d20 X G zKe zJS zK1)) (And.intro (Or.inr (dIn d21 X G zEA zEj zEr)) (And.intro (Or.inr (dIn d22 X G zIw zI8 zIi)) (And.intro (Or.inr (dIn d23 X G zHy zH1 zHd)) (And.intro (Or.inr (dIn d24 X G zMQ zLX zMs)) (And.intro (Or.inr (dIn d25 X G zCg zCb zCf)) (And.intro (Or.inr (dIn d26 X G zEB zEk zEs)) (And.intro (Or.inr (dIn d27 X G zIx zI9 zIj)) (And.intro (Or.inr (dIn d28 X G zEy zEh zEp)) (And.intro (Or.inr (dIn d29 X G zF5 zEU zF0)) (And.intro (Or.inr (dIn d30 X G zHw zGZ zHb)) (And.intro (Or.inr (dIn d31 X G zHv zGY zHa)) (And.intro (Or.inr (dIn d32 X G zIu zI6 zIg)) (And.intro (Or.inr (dIn d33 X G zHx zH0 zHc)) (And.intro (Or.inr (dIn d34 X G zEz zEi zEq)) (And.intro (Or.inr (dIn d35 X G zIy zIa zIk)) (And.intro (Or.inr (dIn d36 X G zF3 zES zEY)) (And.intro (Or.inr (dIn d37 X G zHA zH3 zHf)) (And.intro (Or.inr (dIn d38 X G zHz zH2 zHe)) (And.intro (Or.inr (dIn d39 X G zMR zLY zMt)) (And.intro (Or.inr (dIn d40 X G zKc zJQ zJZ)) (And.intro (Or.inr (dIn d41 X G zKb zJP zJY)) (And.intro (Or.inr (dIn d42 X G bf_law zPr zPv)) (And.intro (Or.inl (by decide +kernel)) (And.intro (Or.inl (by decide +kernel)) (True.intro))))))))))))))))))))))))))))))))))))))))))))
 have cl:Cls K CD:=⟨pg,hd,po,sa⟩
 obtain ⟨gI,dk⟩:=iniIn m0 cl nK (W.mg_of X G aC) mk kc zHB zH4 (by rfl) (by decide +kernel)
 have hD:DkH w K mg:=⟨fun C hC=>by obtain rfl:=DkC.uniq aC hC; exact ⟨cl,nK⟩,⟨CD,gI,dk,aC⟩,fm_mk l.prog X G fN fB fH⟩
 have hM:∀ m q,mtL.lookup m=some q→∃ p,tbl.lookup q=some p∧p.1=2∧zHD K (arT tbl) m q p:=fun m q e=>by
  unfold mtL at e
  rw [List.lookup_cons] at e
  split at e
  ·rename_i em
   obtain rfl:m = "say":=by simpa using em
   cases e
   exact ⟨_,by kernel_rfl,rfl,mIn m2 aC cl zIA zIc (by decide) (by decide) zIm⟩
  rw [List.lookup_cons] at e
  split at e
  ·rename_i em
   obtain rfl:m = "with_nets":=by simpa using em
   cases e
   exact ⟨_,by kernel_rfl,rfl,mIn m1 aC cl zDh zDc (by decide) (by decide) zDf⟩
  cases e
 obtain ⟨_,_,_,_,_,_,_,mt,Ft⟩:=dt.in X G
 have hR:∀ base,RefH l.prog w K mg base:=fun base=>zQh (c := "_law_call") (y := "_law_error") (en := "e") (g := "NetError") (more:=["_law_sorts"]) X G Ft mt (Ft.binds (ps:=["_law_call"]) zF6) rfl zEV rfl (by decide +kernel) (by decide +kernel) xg (by decide +kernel) xk xs xn xv ⟨fun y hy _=>(z.none X G).mem y hy,zP1 X G tx⟩ hD (mth0 hM) zF1
 refine ⟨W.fnOf "law" "law" (zAY zGz) (zAc zGz) (zA1 zGz) .none kV dc pm an cd ct,fun s v=>.of_eq rfl,fun base kb nb hc hb hne=>?_⟩
 exact law_ok (L:=39) (fun x p n e=>A.look x p n e) hM hD ⟨fun y hy _=>(z.none X G).mem y hy,zP1 X G tx⟩ (zM4 X G xs) (lamF_of kb nb tab hc hb hne) (fun t ws ht=>by unfold tkL at ht; cases ht) m (hR base) (by kernel_rfl) F zPr rfl (fun cl=>congrFun zPv cl) (fun ns h=>zOc ns h)
end My
open PySem PySem.W PyProof.Rows
theorem PySem.W.Fast.tw11129855348221320316:True:=trivial
theorem PySem.W.Fast.tw14395473306660544225:True:=trivial
theorem PySem.W.Fast.tw7318615324299962594:True:=trivial
theorem PySem.W.Fast.tw10772716315130556186:True:=trivial
theorem PySem.W.Fast.tw15388118310123843484:True:=trivial
theorem PySem.W.Fast.tw634362542287594571:True:=trivial
theorem PySem.W.Fast.tw15151981770625798384:True:=trivial
theorem PySem.W.Fast.tw15118928517397651452:True:=trivial
theorem PySem.W.Fast.tw17339441888083267220:True:=trivial
theorem PySem.W.Fast.tw5028801238389747192:True:=trivial
theorem PySem.W.Fast.tw1162383365561296597:True:=trivial
theorem PySem.W.Fast.tw1554109910360897986:True:=trivial
theorem PySem.W.Fast.tw14022429220391216714:True:=trivial
theorem PySem.W.Fast.tw13995948189951411810:True:=trivial
theorem PySem.W.Fast.tw5375717141262766193:True:=trivial
theorem PySem.W.Fast.tw4257408689428499828:True:=trivial
theorem PySem.W.Fast.tw11394122348800181434:True:=trivial
theorem PySem.W.Fast.tw9476362420033928929:True:=trivial
theorem PySem.W.Fast.tw10257072793442398447:True:=trivial
theorem PySem.W.Fast.tw13469364004599145136:True:=trivial
theorem PySem.W.Fast.tw12364132760052521027:True:=trivial
theorem PySem.W.Fast.tw2341116284202388580:True:=trivial
theorem PySem.W.Fast.tw3977945557120455372:True:=trivial
theorem PySem.W.Fast.tw2406382520828600217:True:=trivial
theorem PySem.W.Fast.tw13972916482900001175:True:=trivial
theorem PySem.W.Fast.tw12117295192465355447:True:=trivial
theorem PySem.W.Fast.tw724299801184183626:True:=trivial
theorem PySem.W.Fast.tw18405791585376315035:True:=trivial
theorem PySem.W.Fast.tw9785662005808171847:True:=trivial
theorem PySem.W.Fast.tw10416333451631389390:True:=trivial
theorem PySem.W.Fast.tw10182249774851364589:True:=trivial
theorem PySem.W.Fast.tw18107850925520279117:True:=trivial
theorem PySem.W.Fast.tw14586002665968499893:True:=trivial
theorem PySem.W.Fast.tw14222759631429183368:True:=trivial
theorem PySem.W.Fast.tw18418514637949981266:True:=trivial
theorem PySem.W.Fast.tw7243029020116025957:True:=trivial
theorem PySem.W.Fast.tw15814909288477562007:True:=trivial
theorem PySem.W.Fast.tw13904108480827604329:True:=trivial
theorem PySem.W.Fast.tw15201208052625379836:True:=trivial
theorem PySem.W.Fast.tw18022767359260561280:True:=trivial
theorem PySem.W.Fast.tw16228618335275208147:True:=trivial
theorem PySem.W.Fast.tw15478673552680806720:True:=trivial
theorem PySem.W.Fast.tw3773814827014033650:True:=trivial
theorem PySem.W.Fast.tw6933033704713948626:True:=trivial
theorem PySem.W.Fast.tw10541622157125990898:True:=trivial
theorem PySem.W.Fast.tw15325742761354867005:True:=trivial
theorem PySem.W.Fast.tw10226911344765025363:True:=trivial
theorem PySem.W.Fast.tw16269772721949157253:True:=trivial
theorem PySem.W.Fast.tw11402309098209112702:True:=trivial
theorem PySem.W.Fast.tw10667112310058494630:True:=trivial
theorem PySem.W.Fast.tw13846028103862015661:True:=trivial
theorem PySem.W.Fast.tw2495154665133446719:True:=trivial
theorem PySem.W.Fast.tw21372656393448750:True:=trivial
theorem PySem.W.Fast.tw4825932108174132055:True:=trivial
theorem PySem.W.Fast.tw17753908964205919139:True:=trivial
theorem PySem.W.Fast.tw14283683331294366071:True:=trivial
theorem PySem.W.Fast.tw7132258749324422734:True:=trivial
theorem PySem.W.Fast.tw598447673959293046:True:=trivial
theorem PySem.W.Fast.tw3924654557551613304:True:=trivial
theorem PySem.W.Fast.tw8844314479205789758:True:=trivial
theorem PySem.W.Fast.tw2855754866458178941:True:=trivial
theorem PySem.W.Fast.tw11841741352989956181:True:=trivial
theorem PySem.W.Fast.tw2677087490150899724:True:=trivial
theorem PySem.W.Fast.tw11405551905919613162:True:=trivial
theorem PySem.W.Fast.tw11210173915597306944:True:=trivial
theorem PySem.W.Fast.tw10221260849794242637:True:=trivial
theorem PySem.W.Fast.tw15072843992949996700:True:=trivial
theorem PySem.W.Fast.tw15150945380868411615:True:=trivial
theorem PySem.W.Fast.tw704662361219875713:True:=trivial
set_option maxRecDepth 100000 in
set_option maxHeartbeats 0 in
theorem PySem.Challenge.cw_contactnets_k94_desk_refuses_holds : PySem.Challenge.rw_contactnets_k94_desk_refuses.Holds := by
 w_on; o_law; k_head; (case hw=>w_witness2)
 k_fill
 refine L2.walk_evS (L:=3*40) (l:=PySem.Challenge.rw_contactnets_k94_desk_refuses) rfl rfl ⟨rfl,by decide,by decide,rfl⟩ (fun w h Y=>PySem.W.km_in_of Y) ?R ?T ?F
 case R=>decide +kernel
 case T =>
  intro w
  kernel_rfl
 case F =>
  intro w mg fa c T h KX G hmg tab
  refine' My.all_mk KX G hmg tab (My.mkDF ?a1 ?l1 ?c1 ?k1) (My.mkDF ?a2 ?l2 ?c2 ?k2) (My.mkDF ?a3 ?l3 ?c3 ?k3) (My.mkDF ?a4 ?l4 ?c4 ?k4) (My.mkDF ?a5 ?l5 ?c5 ?k5) (My.mkDF ?a6 ?l6 ?c6 ?k6) (My.mkDF ?a7 ?l7 ?c7 ?k7) (My.mkDF ?a8 ?l8 ?c8 ?k8) (My.mkDF ?a9 ?l9 ?c9 ?k9) (My.mkDF ?a10 ?l10 ?c10 ?k10) (My.mkDF ?a11 ?l11 ?c11 ?k11) (My.mkDF ?a12 ?l12 ?c12 ?k12) (My.mkDF ?a13 ?l13 ?c13 ?k13) (My.mkDF ?a14 ?l14 ?c14 ?k14) (My.mkDF ?a15 ?l15 ?c15 ?k15) (My.mkDF ?a16 ?l16 ?c16 ?k16) (My.mkDF ?a17 ?l17 ?c17 ?k17) (My.mkDF ?a18 ?l18 ?c18 ?k18) (My.mkDF ?a19 ?l19 ?c19 ?k19) (My.mkDF ?a20 ?l20 ?c20 ?k20) (My.mkDF ?a21 ?l21 ?c21 ?k21) (My.mkDF ?a22 ?l22 ?c22 ?k22) (My.mkDF ?a23 ?l23 ?c23 ?k23) (My.mkDF ?a24 ?l24 ?c24 ?k24) (My.mkDF ?a25 ?l25 ?c25 ?k25) (My.mkDF ?a26 ?l26 ?c26 ?k26) (My.mkDF ?a27 ?l27 ?c27 ?k27) (My.mkDF ?a28 ?l28 ?c28 ?k28) (My.mkDF ?a29 ?l29 ?c29 ?k29) (My.mkDF ?a30 ?l30 ?c30 ?k30) (My.mkDF ?a31 ?l31 ?c31 ?k31) (My.mkDF ?a32 ?l32 ?c32 ?k32) (My.mkDF ?a33 ?l33 ?c33 ?k33) (My.mkDF ?a34 ?l34 ?c34 ?k34) (My.mkDF ?a35 ?l35 ?c35 ?k35) (My.mkDF ?a36 ?l36 ?c36 ?k36) (My.mkDF ?a37 ?l37 ?c37 ?k37) (My.mkDF ?a38 ?l38 ?c38 ?k38) (My.mkDF ?a39 ?l39 ?c39 ?k39) (My.mkDF ?a40 ?l40 ?c40 ?k40) (My.mkDF ?a41 ?l41 ?c41 ?k41) (My.mkDF ?a42 ?l42 ?c42 ?k42) (My.mkDF ?ta ?tl ?tc ?tk) ⟨?z1,?z2,?z3,?z4,?z5,?z6,?z7,?z8,?z9,?z10,?z11,?z12,?z13,?z14,?z15,?z16,?z17,?z18,?z19,?z20,True.intro⟩ ?tx ?xk ?xs ?xg ?xn ?xv ?aC (My.mkMF ?ma0 ?mi0 ?ml0 ?mc0 ?mk0) (My.mkMF ?ma1 ?mi1 ?ml1 ?mc1 ?mk1) (My.mkMF ?ma2 ?mi2 ?ml2 ?mc2 ?mk2) ?pg ?hd ?po ?sa ?mk ?kc ?nK ?fN ?fB ?fH
  case a1=>k_is
  case l1=>k_is
  case c1=>k_is
  case k1=>k_is
  case a2=>k_is
  case l2=>k_is
  case c2=>k_is
  case k2=>k_is
  case a3=>k_is
  case l3=>k_is
  case c3=>k_is
  case k3=>k_is
  case a4=>k_is
  case l4=>k_is
  case c4=>k_is
  case k4=>k_is
  case a5=>k_is
  case l5=>k_is
  case c5=>k_is
  case k5=>k_is
  case a6=>k_is
  case l6=>k_is
  case c6=>k_is
  case k6=>k_is
  case a7=>k_is
  case l7=>k_is
  case c7=>k_is
  case k7=>k_is
  case a8=>k_is
  case l8=>k_is
  case c8=>k_is
  case k8=>k_is
  case a9=>k_is
  case l9=>k_is
  case c9=>k_is
  case k9=>k_is
  case a10=>k_is
  case l10=>k_is
  case c10=>k_is
  case k10=>k_is
  case a11=>k_is
  case l11=>k_is
  case c11=>k_is
  case k11=>k_is
  case a12=>k_is
  case l12=>k_is
  case c12=>k_is
  case k12=>k_is
  case a13=>k_is
  case l13=>k_is
  case c13=>k_is
  case k13=>k_is
  case a14=>k_is
  case l14=>k_is
  case c14=>k_is
  case k14=>k_is
  case a15=>k_is
  case l15=>k_is
  case c15=>k_is
  case k15=>k_is
  case a16=>k_is
  case l16=>k_is
  case c16=>k_is
  case k16=>k_is
  case a17=>k_is
  case l17=>k_is
  case c17=>k_is
  case k17=>k_is
  case a18=>k_is
  case l18=>k_is
  case c18=>k_is
  case k18=>k_is
  case a19=>k_is
  case l19=>k_is
  case c19=>k_is
  case k19=>k_is
  case a20=>k_is
  case l20=>k_is
  case c20=>k_is
  case k20=>k_is
  case a21=>k_is
  case l21=>k_is
  case c21=>k_is
  case k21=>k_is
  case a22=>k_is
  case l22=>k_is
  case c22=>k_is
  case k22=>k_is
  case a23=>k_is
  case l23=>k_is
  case c23=>k_is
  case k23=>k_is
  case a24=>k_is
  case l24=>k_is
  case c24=>k_is
  case k24=>k_is
  case a25=>k_is
  case l25=>k_is
  case c25=>k_is
  case k25=>k_is
  case a26=>k_is
  case l26=>k_is
  case c26=>k_is
  case k26=>k_is
  case a27=>k_is
  case l27=>k_is
  case c27=>k_is
  case k27=>k_is
  case a28=>k_is
  case l28=>k_is
  case c28=>k_is
  case k28=>k_is
  case a29=>k_is
  case l29=>k_is
  case c29=>k_is
  case k29=>k_is
  case a30=>k_is
  case l30=>k_is
  case c30=>k_is
  case k30=>k_is
  case a31=>k_is
  case l31=>k_is
  case c31=>k_is
  case k31=>k_is
  case a32=>k_is
  case l32=>k_is
  case c32=>k_is
  case k32=>k_is
  case a33=>k_is
  case l33=>k_is
  case c33=>k_is
  case k33=>k_is
  case a34=>k_is
  case l34=>k_is
  case c34=>k_is
  case k34=>k_is
  case a35=>k_is
  case l35=>k_is
  case c35=>k_is
  case k35=>k_is
  case a36=>k_is
  case l36=>k_is
  case c36=>k_is
  case k36=>k_is
  case a37=>k_is
  case l37=>k_is
  case c37=>k_is
  case k37=>k_is
  case a38=>k_is
  case l38=>k_is
  case c38=>k_is
  case k38=>k_is
  case a39=>k_is
  case l39=>k_is
  case c39=>k_is
  case k39=>k_is
  case a40=>k_is
  case l40=>k_is
  case c40=>k_is
  case k40=>k_is
  case a41=>k_is
  case l41=>k_is
  case c41=>k_is
  case k41=>k_is
  case a42=>k_is
  case l42=>k_is
  case c42=>k_is
  case k42=>k_is
  case ta=>k_is
  case tl=>k_is
  case tc=>k_is
  case tk=>k_is
  case z1=>k_is
  case z2=>k_is
  case z3=>k_is
  case z4=>k_is
  case z5=>k_is
  case z6=>k_is
  case z7=>k_is
  case z8=>k_is
  case z9=>k_is
  case z10=>k_is
  case z11=>k_is
  case z12=>k_is
  case z13=>k_is
  case z14=>k_is
  case z15=>k_is
  case z16=>k_is
  case z17=>k_is
  case z18=>k_is
  case z19=>k_is
  case z20=>k_is
  case tx=>kernel_rfl
  case xg=>k_is
  case xv=>k_is
  case xk=>kernel_rfl
  case xs=>kernel_rfl
  case xn=>kernel_rfl
  case aC=>k_is
  case ma0=>k_is
  case mi0=>k_is
  case ml0=>k_is
  case mc0=>k_is
  case mk0=>k_is
  case ma1=>k_is
  case mi1=>k_is
  case ml1=>k_is
  case mc1=>k_is
  case mk1=>k_is
  case ma2=>k_is
  case mi2=>k_is
  case ml2=>k_is
  case mc2=>k_is
  case mk2=>k_is
  case pg=>k_is
  case hd=>k_is
  case po=>k_is
  case sa=>k_is
  case mk=>k_is
  case kc=>k_is
  case nK=>k_is
  case fN=>k_is
  case fB=>kernel_rfl
  case fH=>kernel_rfl
