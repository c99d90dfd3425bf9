import PyProof.Rows.All
import Wide.All
import OpenK.AllK
import Wide.FinOn
import Lean
import PyProof.EqAt
import PyProof.EqKinds
import PyProof.TupleCall
import PyProof.NeKinds
import PyProof.EnumMake
import PyProof.Draws
import PyProof.P3Eq
import PyProof.NeData
import PyProof.ReprRoads
import PyProof.CallFns
import PyProof.SliceSyntax
import PyProof.AutoIntG2
import PyProof.SumWalk
import PyProof.ConsumeWalk
import PyProof.Rows.TupIter
import PyProof.DictRoadsH
import PyProof.DictWalks
import KE.KDictList
import KE.KNest
import PySem.Challenge.RW_contactnets_k84_whole_places_at_settings
set_option Elab.async false
set_option linter.all false
set_option genSizeOf false
set_option maxRecDepth 100000
set_option maxHeartbeats 1000000
open List renaming getElem?_eq_getElem→qA0,length_map→qA2,getElem?_eq_some_iff→qA5,getElem?_map→qA6,size_toArray→qA8,mem_map→qA9,mem_filter→qB2,getD_eq_getElem?_getD→qB3,mem_range→qB5,getElem?_append_right→qB6,mem_cons→qB7,mem_of_getElem?→qB9,map_map→qC0,getElem?_append_left→qC1,replicate→qC2,length_append→qC4,map_cons→qC5,getElem?_range→qC8,lookup_cons→qC9,length_cons→qD0,getElem_mem→qD1,mem_append→qD2,mem_append_right→qD3,getElem?_set_self→qD4,map_congr_left→qD5,mem_cons_of_mem→qD6,getElem?_set_ne→qD7,getElem?_zip_eq_some→qD8,length_filter_le→qD9,filter_cons→qE0,getElem?_cons_succ→qE1,find?_cons→qE3,map_append→qE4,all_eq_true→qE5,mem_singleton→qE6,any_cons→qE9,mem_cons_self→qF1,length_range→qF3,replicate_succ→qF4,getD→qF5,getElem?_eq_none→qF6,not_mem_nil→qF7,mapM_cons→qF8,getElem?_replicate→qF9,take_of_length_le→qG1,filter_eq_nil_iff→qG2,length_drop→qG4,length_replicate→qG6,drop_eq_getElem_cons→qG7,length_zip→qG8,mem_append_left→qH1,flatten_cons→qH3,append_assoc→qH4,nodup_append→qH6,pairwise_map→qH7,filterMap_cons→qH8,length_take→qI0,length_eq_zero_iff→qI1,pairwise_cons→qI2,pairwise_lt_range→qI3,nodup_cons→qI5,of_mem_zip→qI6,length_set→qI7,filter_congr→qJ1,map_nil→qJ4,all_cons→qJ8,append_nil→qJ9,foldl_cons→qK0,nil_append→qK1,map_inj_right→qK3,range_succ_eq_map→qK5,drop_zero→qK6,getElem?_toArray→qK9,take_append_drop→qL0,take_length→qL2,ext_getElem→qL4,mem_flatMap→qL5,getElem?_of_mem→qL7,mem_of_mem_take→qL8,length_nil→qM0,range_succ→qM1,getElem_of_mem→qM2,filter_eq_self→qM3,foldl→qM5,perm_append_singleton→qM6,perm_ext_iff_of_nodup→qM7,filter_append→qM8,pairwise_iff_getElem→qN0,mem_of_find?_eq_some→qN1,nodup_range→qN5,any_eq_true→qN6,all_map→qN9,any_map→qO0,drop_of_length_le→qO1,forIn_cons→qO2,length→qO6,forIn_nil→qO7,pairwise_append→qO9,mem_of_mem_drop→qP0,mem_iff_getElem→qP1,length_pos_iff→qP2,flatMap_append→qP3,map_drop→qP4,mem_filterMap→qP5,findIdx?_cons→qP7,filterMap_nil→qP8,find?_eq_none→qQ0,getElem?_set→qQ2,take_add_one→qQ4,isEmpty_map→qQ7,cons→qQ9,map_snd_zip→qR0,drop_length→qR1,filter_map→qR5,find?_some→qR6,map_const'→qR7,map_take→qS0
open Option renaming map_eq_some_iff→qA1,bind_eq_some_iff→qA3,isSome_iff_exists→qJ7,isSome_map→qN2,map_some→qO3,isSome_some→qP6,getD_none→qQ5
open Nat renaming le_refl→qB0,lt_of_lt_of_le→qB8,ne_of_lt→qC3,le_trans→qC6,lt_succ_of_lt→qG0,lt_irrefl→qG3,lt_of_le_of_lt→qG5,le_of_lt→qH0,ne_of_gt→qH2,le_antisymm→qI8,zero_le→qJ2,le_of_not_lt→qJ5,sub_self→qJ6,lt_succ_self→qL1,le_add_right→qL3,pow_le_pow_right→qL9,mul_le_mul→qM9,le_succ→qN3,min_eq_right→qN4,mul_comm→qN8,lt_or_gt_of_ne→qP9,lt_trichotomy→qQ3,succ_ne_self→qQ6,succ_le_succ→qQ8,not_lt_zero→qR3,min_eq_left→qR4,sub_le→qR9
open Bool renaming false_ne_true→qA7,and_eq_true→qC7,eq_iff_iff→qE7,false_eq_true→qF2,or_eq_true→qG9,not_eq_true'→qJ0,or_eq_false_iff→qL6,false_and→qO5,eq_false_iff→qQ1,not_eq_true→qR2,and_false→qR8
open Int renaming toNat_natCast→qE8,toNat_of_nonneg→qH9,emod_lt_of_pos→qI4,emod_nonneg→qK2,le_refl→qK4,le_trans→qK7,zero_add→qK8,fdiv_eq_ediv_of_nonneg→qM4,le_antisymm→qO4
open PySem.Heap renaming get?_push_of_some→qA4,lt_size→qB1,get?_push_size→qB4,SameBut→qE2,size_push→qF0,IsTuple→qH5,get?_update_self→qI9,IsList→qJ3,get?_update_other→qN7,ExtBut→qO8
namespace L2
open PySem PySem.Spec PyProof.Rows
noncomputable abbrev Key:=Sum Int Str
noncomputable def zLK:Key→Value→Bool
 | .inl k,v=>Value.isInt k v
 | .inr x,v=>Value.isStrOf x v
noncomputable def keyH (w:World):Key→Int
 | .inl k=>hashInt k
 | .inr x=>hashStr w x
theorem zB3:∀ {k:Key}{v:Value},zLK k v=true→(∃ i t,k=Sum.inl i∧v=Value.int i t)∨(∃ x t,k=Sum.inr x∧v=Value.str x t)
 | .inl i,v,h=>by
  obtain ⟨t,e⟩:=Value.isInt_shape (k:=i) (v:=v) h
  exact .inl ⟨i,t,rfl,e⟩
 | .inr x,v,h=>by
  obtain ⟨t,e⟩:=Value.isStrOf_shape (x:=x) (v:=v) h
  exact .inr ⟨x,t,rfl,e⟩
theorem zQ3 (i:Int) (t:Tok):zLK (.inl i) (.int i t)=true:=by simp [zLK,Value.isInt]
theorem zQ2 (x:Str) (t:Tok):zLK (.inr x) (.str x t)=true:=by simp [zLK,Value.isStrOf]
theorem zXI (a b:Int):decide ((Sum.inl a:Key)=Sum.inl b)=(a == b):=by
 by_cases e:a=b
 ·subst e; simp
 ·have h:¬ (Sum.inl a:Key)=Sum.inl b:=fun q=>e (Sum.inl.inj q)
  rw [decide_eq_false h]
  exact (beq_eq_false_iff_ne.mpr e).symm
theorem zXF (a b:Str):decide ((Sum.inr a:Key)=Sum.inr b)=decide (a=b):=by
 by_cases e:a=b
 ·subst e; simp
 ·have h:¬ (Sum.inr a:Key)=Sum.inr b:=fun q=>e (Sum.inr.inj q)
  rw [decide_eq_false h,decide_eq_false e]
theorem zXH (a:Int) (b:Str):decide ((Sum.inl a:Key)=Sum.inr b)=false:=decide_eq_false (fun q=>nomatch q)
theorem zXG (a:Str) (b:Int):decide ((Sum.inr a:Key)=Sum.inl b)=false:=decide_eq_false (fun q=>nomatch q)
noncomputable def zAS (prog:Program) (w:World):PySem.KeyKind prog w Key where
 is:=zLK
 hash:=keyH w
 inj:=fun v a b ha hb=>by
  rcases zB3 ha with ⟨i,t,rfl,rfl⟩ | ⟨x,t,rfl,rfl⟩
  ·rcases zB3 hb with ⟨j,u,rfl,e⟩ | ⟨y,u,rfl,e⟩
   ·injection e with e1 _; rw [e1]
   ·exact nomatch e
  ·rcases zB3 hb with ⟨j,u,rfl,e⟩ | ⟨y,u,rfl,e⟩
   ·exact nomatch e
   ·injection e with e1 _; rw [e1]
 byValue:=fun k v h=>by
  rcases zB3 h with ⟨i,t,rfl,rfl⟩ | ⟨x,t,rfl,rfl⟩ <;> rfl
 pyHash:=fun hv h=>by
  rcases zB3 hv with ⟨i,t,rfl,rfl⟩ | ⟨x,t,rfl,rfl⟩
  ·exact wpAny_pyHash_int h
  ·exact wpAny_pyHash_str h
 eqBool:=fun hu hv h=>by
  rcases zB3 hu with ⟨i,t,rfl,rfl⟩ | ⟨x,t,rfl,rfl⟩
  ·rcases zB3 hv with ⟨j,u,rfl,rfl⟩ | ⟨y,u,rfl,rfl⟩
   ·rw [zXI] at h; exact wpAny_eqBool_int h
   ·rw [zXH] at h; exact SeqAt.EqAt.int_str i t y u _ _ _ _ h
  ·rcases zB3 hv with ⟨j,u,rfl,rfl⟩ | ⟨y,u,rfl,rfl⟩
   ·rw [zXG] at h; exact SeqAt.EqAt.str_int x t j u _ _ _ _ h
   ·rw [zXF] at h; exact wpAny_eqBool_str h
 «strs»:=fun k x t v h=>by
  rcases zB3 h with ⟨i,u,rfl,e⟩ | ⟨y,u,rfl,e⟩
  ·exact nomatch e
  ·injection e with e1 _
   subst e1
   cases v <;> rfl
theorem zLG (prog:Program) (w:World) (i:Int) (t:Tok):(zAS prog w).is (.inl i) (.int i t)=true:=zQ3 i t
theorem zLF (prog:Program) (w:World) (x:Str) (t:Tok):(zAS prog w).is (.inr x) (.str x t)=true:=zQ2 x t
inductive V where
 | non | bl (b:Bool) | int (i:Int) | str (x:Str) | byt (b:Array UInt8) | flt (b:UInt64) | ref (a:Addr) | ty (n:String)
 deriving DecidableEq
noncomputable def RelV:V→Value→Prop
 | .non,u=>u=Value.none
 | .bl b,u=>u=Value.bool b
 | .int i,u=>∃ t,u=Value.int i t
 | .str x,u=>∃ t,u=Value.str x t
 | .byt b,u=>∃ t,u=Value.bytes b t
 | .flt b,u=>∃ t,u=Value.float b t
 | .ref a,u=>u=Value.ref a
 | .ty n,u=>u=Value.type n
noncomputable abbrev Vals:List V→List Value→Prop:=Paired RelV
theorem Vals.length {xs:List V}{us:List Value} (r:Vals xs us):xs.length=us.length:=Paired.length r
theorem Vals.get:∀ {xs:List V}{us:List Value}{i:Nat}{x:V},Vals xs us→xs[i]?=some x→∃ u,us[i]?=some u∧RelV x u
 | _,_,_,_,.nil,e=>by simp at e
 | _,_,0,_,.cons r _,e=>by simp at e; subst e; exact ⟨_,rfl,r⟩
 | _,_,i+1,x,.cons _ t,e=>by
  obtain ⟨u,h1,h2⟩:=Vals.get (i:=i) (x:=x) t (by simpa using e)
  exact ⟨u,by simpa using h1,h2⟩
theorem Vals.set {x:V}{u:Value} (r:RelV x u):∀ {xs:List V}{us:List Value} (i:Nat),Vals xs us→Vals (xs.set i x) (us.set i u)
 | _,_,_,.nil=>.nil
 | _,_,0,.cons _ t=>.cons r t
 | _,_,i+1,.cons q t=>.cons q (Vals.set r i t)
theorem Vals.append:∀ {xs ys:List V}{us ws:List Value},Vals xs us→Vals ys ws→Vals (xs++ys) (us++ws)
 | _,_,_,_,.nil,s=>s
 | _,_,_,_,.cons r t,s=>.cons r (Vals.append t s)
theorem Vals.take:∀ {xs:List V}{us:List Value} (n:Nat),Vals xs us→Vals (xs.take n) (us.take n)
 | _,_,0,_=>.nil
 | _,_,_+1,.nil=>.nil
 | _,_,n+1,.cons r t=>.cons r (Vals.take n t)
theorem Vals.drop:∀ {xs:List V}{us:List Value} (n:Nat),Vals xs us→Vals (xs.drop n) (us.drop n)
 | _,_,0,r=>r
 | _,_,_+1,.nil=>.nil
 | _,_,n+1,.cons _ t=>Vals.drop n t
noncomputable def RelO:Option V→Option Value→Prop
 | some v,some u=>RelV v u
 | none,none=>True
 | _,_=>False
noncomputable def KV {κ:Type}:List (κ × V)→List (κ × Value)→Prop:=Paired fun (p:κ × V) (q:κ × Value)=>p.1=q.1∧RelV p.2 q.2
noncomputable def kV:Key→V
 | .inl i=>.int i
 | .inr x=>.str x
inductive HO where
 /-- a list -/
 | lst (xs:List V)
 /-- a tuple (never changes) -/
 | tup (xs:List V)
 /-- a dict whose keys are ints and texts; one whose keys are tuples of ints and texts (the empty one is both) -/
 | dK (kvs:List (Key × V)) | dT (kvs:List (List Key × V))
 /-- a set of ints: its members,its size -/
 | set (S:Int→Bool) (n:Nat)
 /-- an instance of the class at C,its dict at dx,its attributes -/
 | ins (C dx:Addr) (fs:List (Str × V))
 /-- the dict of the instance at x -/
 | own (x:Addr)
 /-- the dict of an exception -/
 | xd (fs:List (Str × V))
 /-- a bound method,f of x -/
 | met (f x:Addr)
 /-- a range object lo,lo+1,.. below hi -/
 | rng (lo hi:Int)
 /-- a thing that is known to the object (the script; a dict while a loop walks it): read,never written while it is so -/
 | frz (o:Obj) (u:HO)
 /-- a code object's table -/
 | tbl (ps:Array Value)
 /-- any other thing,by what is true of its one object (a def of one's own: SetO a S n:=HO.ext fun h=>..) -/
 | ext (φ:Heap→Prop)
noncomputable abbrev Hp:=Addr→Option HO
noncomputable def upd (H:Hp) (a:Addr) (o:HO):Hp:=fun b=>if b=a then some o else H b
theorem zAV {H:Hp}{a:Addr}{o:HO}:upd H a o a=some o:=by unfold upd; rw [if_pos rfl]
theorem zAi {H:Hp}{a b:Addr}{o:HO} (h:b≠a):upd H a o b=H b:=by unfold upd; rw [if_neg h]
theorem zat {H:Hp}{a b:Addr}{o u:HO} (h:H a=some o) (h':H b=some u) (d:o≠u):a≠b:=by
 intro e; subst e; rw [h] at h'; exact d (Option.some.inj h')
theorem zBc {H:Hp}{a b:Addr}{o:HO} (h:H a=some o) (h':H b=none):a≠b:=by
 intro e; subst e; rw [h] at h'; cases h'
section
variable (P:Program) (w:World)
noncomputable def zCE (H:Hp) (h:Heap) (a:Addr):HO→Prop
 | .lst xs=>xs.length≤sizeLine∧∃ (its:List Value) (n:Nat),Vals xs its∧h.get? a=some { cls:=.type "list",data:=.seq its.toArray n }
 | .tup xs=>xs.length≤sizeLine∧∃ its:List Value,Vals xs its∧IsTup h a its.toArray
 | .dK kvs=>kvs.length≤sizeLine∧(a == sysModules)=false∧∃ vs,KV kvs vs∧h.DictOf (zAS P w) a vs
 | .dT kvs=>kvs.length≤sizeLine∧(a == sysModules)=false∧∃ xs:List (List Key × Addr × Value),
   Paired (fun (p:List Key × V) (q:List Key × Addr × Value)=>p.1=q.1∧H q.2.1=some (.tup (p.1.map kV))∧RelV p.2 q.2.2) kvs xs ∧
   ∃ o es ep,h.get? a=some o∧o.ExactDict∧o.data=.dict es ep∧es.toList=xs.map (entryOfKey (tupleKind (zAS P w)))∧(xs.map (·.1)).Nodup
 | .set S n=>h.SetOf (intKind P w) a S n
 | .ins C dx fs=>H dx=some (.own a)∧fs.length≤1000∧dx≠a∧h.get? a=some (W.instObj C dx) ∧
   ∃ mA,h.Ns1 dx mA∧(∀ f,RelO (fs.lookup f) (mA f))∧PySem.Within mA (fs.map (·.1))
 | .own _=>∃ o,h.get? a=some o
 | .xd fs=>∃ mA,h.Ns1 a mA∧∀ f,RelO (fs.lookup f) (mA f)
 | .rng lo hi=>∃ t u v,h.get? a=some { cls:=.type "range",data:=.fields #[.int lo t,.int hi u,.int 1 v] }
 | .frz o u=>h.get? a=some o∧zCE H h a u
 | .tbl ps=>h.get? a=some { cls:=.none,data:=.fields ps }
 | .met f x=>h.get? a=some (W.methodObj (.ref f) (.ref x))
 | .ext φ=>φ h∧(∃ o,h.get? a=some o)∧∀ h1 h2:Heap,φ h1→(∀ o,h1.get? a=some o→h2.get? a=some o)→φ h2
def HOk (H:Hp) (h:Heap):Prop:=∀ a o,H a=some o→zCE P w H h a o
end
section
variable {P:Program}{w:World}{H H':Hp}{h h':Heap}{a:Addr}{o:HO}
theorem zCE.lt (x:zCE P w H h a o):a<h.objs.size:=by
 cases o with
 | lst xs=>obtain ⟨_,_,_,_,e⟩:=x; exact qB1 e
 | tup xs=>obtain ⟨_,_,_,p⟩:=x; exact p.lt
 | dK kvs=>obtain ⟨_,_,_,_,o,_,_,e,_⟩:=x; exact qB1 e
 | dT kvs=>obtain ⟨_,_,_,_,o,_,_,e,_⟩:=x; exact qB1 e
 | set S n=>obtain ⟨o,_,_,_,e,_⟩:=x; exact qB1 e
 | ins C dx fs=>obtain ⟨_,_,_,e,_⟩:=x; exact qB1 e
 | own y=>obtain ⟨_,e⟩:=x; exact qB1 e
 | xd fs=>obtain ⟨_,⟨_,_,_,e,_⟩,_⟩:=x; exact qB1 e
 | rng lo hi=>obtain ⟨_,_,_,e⟩:=x; exact qB1 e
 | frz ob u=>obtain ⟨e,_⟩:=x; exact qB1 e
 | tbl ps=>exact qB1 (show h.get? a=some _ from x)
 | met f y=>exact qB1 (show h.get? a=some _ from x)
 | ext φ=>obtain ⟨_,⟨_,e⟩,_⟩:=x; exact qB1 e
theorem Paired.mapP {α β:Type}{F G:α→β→Prop}:∀ {l₁:List α}{l₂:List β},Paired F l₁ l₂→(∀ a b,F a b→G a b)→Paired G l₁ l₂
 | _,_,.nil,_=>.nil
 | _,_,.cons r t,f=>.cons (f _ _ r) (Paired.mapP t f)
theorem zCE.stay (x:zCE P w H h a o) (k:∀ b u,(b=a∨H b=some (.own a))→h.get? b=some u→h'.get? b=some u)
  (ho:∀ b,H b=some (.own a)→H' b=some (.own a)) (ht:∀ b xs,H b=some (.tup xs)→H' b=some (.tup xs)):zCE P w H' h' a o:=by
 induction o with
 | lst xs=>obtain ⟨z,its,n,r,e⟩:=x; exact ⟨z,its,n,r,k _ _ (.inl rfl) e⟩
 | tup xs=>obtain ⟨z,its,r,ob,e,c⟩:=x; exact ⟨z,its,r,ob,k _ _ (.inl rfl) e,c⟩
 | dK kvs=>obtain ⟨z,y,vs,r,ob,es,ep,e,c⟩:=x; exact ⟨z,y,vs,r,ob,es,ep,k _ _ (.inl rfl) e,c⟩
 | dT kvs =>
  obtain ⟨z,y,xs,r,ob,es,ep,e,c⟩:=x
  exact ⟨z,y,xs,Paired.mapP r fun p q z=>⟨z.1,ht _ _ z.2.1,z.2.2⟩,ob,es,ep,k _ _ (.inl rfl) e,c⟩
 | set S n=>obtain ⟨ob,es,ep,t,e,c⟩:=x; exact ⟨ob,es,ep,t,k _ _ (.inl rfl) e,c⟩
 | ins C dx fs =>
  obtain ⟨d,z,ne,e,mA,⟨od,es,ep,e2,c⟩,r⟩:=x
  exact ⟨ho _ d,z,ne,k _ _ (.inl rfl) e,mA,⟨od,es,ep,k _ _ (.inr d) e2,c⟩,r⟩
 | own y=>obtain ⟨ob,e⟩:=x; exact ⟨ob,k _ _ (.inl rfl) e⟩
 | xd fs=>obtain ⟨mA,⟨od,es,ep,e,c⟩,r⟩:=x; exact ⟨mA,⟨od,es,ep,k _ _ (.inl rfl) e,c⟩,r⟩
 | rng lo hi=>obtain ⟨t,u,v,e⟩:=x; exact ⟨t,u,v,k _ _ (.inl rfl) e⟩
 | frz ob u ih=>obtain ⟨e,q⟩:=x; exact ⟨k _ _ (.inl rfl) e,ih q⟩
 | tbl ps =>
  have e:h.get? a=some { cls:=.none,data:=.fields ps }:=x
  show h'.get? a=some { cls:=.none,data:=.fields ps }
  exact k a _ (.inl rfl) e
 | met f y =>
  have e:h.get? a=some (W.methodObj (.ref f) (.ref y)):=x
  show h'.get? a=some (W.methodObj (.ref f) (.ref y))
  exact k a _ (.inl rfl) e
 | ext φ=>obtain ⟨p,⟨o,e⟩,st⟩:=x; exact ⟨st _ _ p fun o q=>k _ _ (.inl rfl) q,⟨o,k _ _ (.inl rfl) e⟩,st⟩
theorem HOk.lt (x:HOk P w H h) (e:H a=some o):a<h.objs.size:=(x a o e).lt
theorem HOk.fresh (x:HOk P w H h) (e:h.objs.size≤a):H a=none:=by
 cases q:H a with
 | none=>rfl
 | some u=>exact absurd (qB8 (x.lt q) e) (qG3 _)
theorem HOk.kept (x:HOk P w H h) (k:∀ b u,h.get? b=some u→h'.get? b=some u):HOk P w H h':=fun a o e =>
 (x a o e).stay (fun b u _ q=>k b u q) (fun _ q=>q) fun _ _ q=>q
theorem HOk.laid (x:HOk P w H h) (k:∀ b u,h.get? b=some u→h'.get? b=some u) (hp:h.objs.size≤a) (new:zCE P w (upd H a o) h' a o):HOk P w (upd H a o) h':=fun b u e=>by
 have hn:=x.fresh hp
 by_cases hb:b=a
 ·subst hb; rw [zAV] at e; cases e; exact new
 ·rw [zAi hb] at e
  exact (x b u e).stay (fun c v _ q=>k c v q) (fun c q=>by rw [zAi (zBc q hn)]; exact q) fun c xs q=>by rw [zAi (zBc q hn)]; exact q
end
def Rd (H:Hp) (a:Addr) (u:HO):Prop:=H a=some u∨∃ o,H a=some (.frz o u)
theorem Rd.ok {P:Program}{w:World}{H:Hp}{h:Heap}{a:Addr}{u:HO} (r:Rd H a u) (x:HOk P w H h):zCE P w H h a u:=by
 rcases r with r | ⟨o,r⟩
 ·exact x a u r
 ·obtain ⟨_,q⟩:=x a _ r
  exact q
noncomputable def Mut:Option HO→Prop
 | some (.lst _)=>True
 | some (.dK _)=>True
 | some (.dT _)=>True
 | some (.set _ _)=>True
 | some (.ins _ _ _)=>True
 | some (.ext _)=>True
 | _=>False
section
variable {P:Program}{w:World}{H:Hp}{h h':Heap}{x e:Addr}{o':HO}
theorem HOk.write (ok:HOk P w H h) (mu:Mut (H x)) (he:e=x∨H e=some (.own x)) (k:∀ b u,b≠e→h.get? b=some u→h'.get? b=some u) (heo:∃ u,h'.get? e=some u)
  (new:zCE P w (upd H x o') h' x o'):HOk P w (upd H x o') h':=fun b u q=>by
 have nown:∀ c y,H c=some (.own y)→c≠x:=fun c y r z=>by subst z; rw [r] at mu; exact mu
 have ntup:∀ c xs,H c=some (.tup xs)→c≠x:=fun c xs r z=>by subst z; rw [r] at mu; exact mu
 by_cases hb:b=x
 ·subst hb; rw [zAV] at q; cases q; exact new
 ·rw [zAi hb] at q
  by_cases hbe:b=e
  ·have q':H b=some (.own x):=by
    rcases he with z | z
    ·exact absurd (hbe.trans z) hb
    ·rw [hbe]; exact z
   rw [q] at q'; cases q'
   obtain ⟨v,hv⟩:=heo
   exact ⟨v,by rw [hbe]; exact hv⟩
  ·refine (ok b u q).stay (fun c v hc r=>k c v ?_ r) (fun c r=>by rw [zAi (nown c b r)]; exact r) fun c xs r=>by rw [zAi (ntup c xs r)]; exact r
   rcases hc with rfl | hc
   ·exact hbe
   ·rintro rfl
    rcases he with z | z
    ·exact nown c b hc z
    ·rw [hc] at z; cases z; exact hb rfl
end
structure Un (fs ex:List Addr) (H H':Hp) (h h':Heap):Prop where
 keep:∀ b o,h.get? b=some o→H b=none→b∉fs→b∉ex→h'.get? b=some o
 slot:∀ b o,h.get? b=some o→H b=none→b∈fs→b∉ex→∃ sl,h'.get? b=some { o with slots:=sl }
 free:∀ b o,h.get? b=some o→H b=none→b∉ex→H' b=none
 there:∀ b o,h.get? b=some o→b∉ex→∃ o',h'.get? b=some o'
 tups:∀ b xs,H b=some (.tup xs)→H' b=some (.tup xs)
 frzs:∀ b o u,H b=some (.frz o u)→H' b=some (.frz o u)
 tbls:∀ b ps,H b=some (.tbl ps)→∃ more,H' b=some (.tbl (ps++more))
section
variable {fs fs' ex ex':List Addr}{H H1 H2:Hp}{h h1 h2 h':Heap}{a x e:Addr}{o:HO}
theorem Un.any (u:Un fs ex H H1 h h1) {b:Addr}{ob:Obj} (q:h.get? b=some ob) (n:H b=none) (hx:b∉ex):∃ sl,h1.get? b=some { ob with slots:=sl }:=by
 by_cases hb:b∈fs
 ·exact u.slot b ob q n hb hx
 ·exact ⟨ob.slots,u.keep b ob q n hb hx⟩
theorem Un.kept (k:∀ b u,h.get? b=some u→h'.get? b=some u):Un fs ex H H h h' :=
 ⟨fun b ob q _ _ _=>k b ob q,fun b ob q _ _ _=>⟨ob.slots,k b ob q⟩,fun _ _ _ n _=>n,fun b ob q _=>⟨ob,k b ob q⟩,fun _ _ q=>q,fun _ _ _ q=>q,fun _ ps q=>⟨#[],by rw [q]; simp⟩⟩
theorem Un.refl:Un fs ex H H h h:=Un.kept fun _ _ q=>q
theorem Un.laid (k:∀ b u,h.get? b=some u→h'.get? b=some u) (hp:h.objs.size≤a) (hn:H a=none):Un fs ex H (upd H a o) h h' where
 keep:=fun b u q _ _ _=>k b u q
 slot:=fun b u q _ _ _=>⟨u.slots,k b u q⟩
 free:=fun b u q n _=>by rw [zAi (qC3 (qB8 (qB1 q) hp))]; exact n
 there:=fun b u q _=>⟨u,k b u q⟩
 tups:=fun b xs q=>by rw [zAi (zBc q hn)]; exact q
 frzs:=fun b u xs q=>by rw [zAi (zBc q hn)]; exact q
 tbls:=fun b ps q=>⟨#[],by rw [zAi (zBc q hn),q]; simp⟩
theorem Un.write (mu:Mut (H x)) (he:e=x∨H e=some (.own x)) (k:∀ b u,b≠e→h.get? b=some u→h'.get? b=some u) (heo:∃ u,h'.get? e=some u):Un fs ex H (upd H x o) h h':=by
 have hx:∀ b,H b=none→b≠x:=fun b n z=>by subst z; rw [n] at mu; exact mu
 have hb:∀ b,H b=none→b≠e:=fun b n z=>by
  subst z
  rcases he with r | r
  ·exact hx b n r
  ·rw [n] at r; cases r
 have hm:∀ b u,H b=some u→¬ Mut (some u)→b≠x:=fun b u q nm z=>by subst z; rw [q] at mu; exact nm mu
 refine ⟨fun b u q n _ _=>k b u (hb b n) q,fun b u q n _ _=>⟨u.slots,k b u (hb b n) q⟩,fun b u q n _=>by rw [zAi (hx b n)]; exact n,fun b u q _=>?_,
  fun b xs q=>by rw [zAi (hm b _ q fun z=>z)]; exact q,fun b u xs q=>by rw [zAi (hm b _ q fun z=>z)]; exact q,fun b ps q=>⟨#[],by rw [zAi (hm b _ q fun z=>z),q]; simp⟩⟩
 by_cases hbe:b=e
 ·subst hbe; exact heo
 ·exact ⟨u,k b u hbe q⟩
end
noncomputable def trk (h:Heap) (H:Hp):List Addr:=(List.range h.objs.size).filter fun a=>(H a).isSome
noncomputable def hidT (h:Heap) (H:Hp):Heap:=W.hideAll h (trk h H)
theorem zQp (h:Heap) (H:Hp):(hidT h H).objs.size=h.objs.size:=W.hideAll_size _ _
theorem zSy {h:Heap}{H:Hp}{b:Addr}{o:Obj} (e:h.get? b=some o) (n:H b=none):(hidT h H).get? b=some o :=
 W.hideAll_get _ e fun hm=>by
  have q:(H b).isSome=true:=(qB2.mp hm).2
  rw [n] at q; simp at q
theorem zUH {h:Heap}{H:Hp}{b:Addr}{o:Obj} (e:(hidT h H).get? b=some o):h.get? b=some o∧H b=none:=by
 have e':h.get? b=some o:=W.of_hideAll (trk h H) e
 refine ⟨e',?_⟩
 cases q:H b with
 | none=>rfl
 | some x =>
  have hm:b∈trk h H:=qB2.mpr ⟨qB5.mpr (qB1 e'),by simp [q]⟩
  have z:(hidT h H).get? b=none:=W.hideAll_none (trk h H) hm
  rw [z] at e; cases e
noncomputable def zVF (g h:Heap) (L:Addr):List (Addr × Obj):=(List.range h.objs.size).filterMap fun a=>if a=L∨(g.get? a).isSome=true then none else (h.get? a).map fun o=>(a,o)
noncomputable def rest (g h:Heap) (L d:Addr):List (Addr × Obj):=(zVF g h L).filter fun p=>decide (p.1≠d)
structure Mod (K:W.Frag) (mg:Str→Option Value) (base:Heap):Prop where
 kin:K.In base
 glob:base.Ns mainGlobals mg
 blt:∃ mb,base.Ns builtinsNs mb∧∀ x:Str,x ≠ "__name__"→mb x=bootBuiltins x
 nolimit:base.NoLimit
structure Cx where
 prog:Program
 w:World
 K:W.Frag
 mg:Str→Option Value
 base:Heap
 A:Around
 N:List Str
 s₀:Shared
 H₀:Hp
 env:Env
 outer:List Env
 stack:List Env
 ex:List Addr
 fn:Str→Bool
 calm:Bool
 pn:List (Addr × Obj)
 xe:Value→Shared→Prop
noncomputable def frs (l:List Env):List Addr:=l.filterMap (·.frame)
noncomputable abbrev Cx.fs (X:Cx):List Addr:=frs X.outer
def Vis (sc:Scope) (x:Str):Prop:=sc.names.lookup x=some .local∨sc.names.lookup x=some .cell∨sc.names.lookup x=some .free
def Loc (sc:Scope) (x:Str):Prop:=sc.names.lookup x=some .local∨sc.names.lookup x=some .cell
def Look (env:Env) (h:Heap) (m:Str→Option Value) (x:Str) (u:Value):Prop :=
 (env.kindOf x=some .local∧m x=some u)∨((env.kindOf x=some .cell∨env.kindOf x=some .free)∧∃ c,env.cells.lookup x=some c∧h.IsCell c (some u))
structure Cx.Ok (X:Cx):Prop where
 mod:Mod X.K X.mg X.base
 kind:X.env.scope.kind=.function
 glob:X.env.globals=mainGlobals
 blt:X.env.builtins=builtinsNs
 above:X.s₀.heap.objs.size≤X.env.locals
 inj:∀ x y c,X.env.cells.lookup x=some c→X.env.cells.lookup y=some c→x=y
 has:∀ x,(X.env.kindOf x=some .cell∨X.env.kindOf x=some .free)→∃ c,X.env.cells.lookup x=some c
 cab:∀ x c,X.fn x=true→X.env.cells.lookup x=some c→X.s₀.heap.objs.size≤c
 hd:X.calm=true→X.A.handled=none
 frames:X.A.frames=some X.stack
 stk:X.stack=X.outer∨(X.stack=X.env::X.outer∧X.env.frame=some X.env.locals)
 exf:∀ b∈X.ex,b≠X.env.locals∧∀ x c,X.env.cells.lookup x=some c→c≠b
 bs:∀ b o,X.base.get? b=some o→X.s₀.heap.get? b=some o∧X.H₀ b=none
 bsz:X.base.objs.size≤X.s₀.heap.objs.size
 noex:∀ b o,X.base.get? b=some o→b∉X.ex
 exfs:∀ b∈X.ex,b∉X.fs
 funs:X.s₀.heap.FunFrames X.base X.outer
 frf:∀ b∈X.fs,X.H₀ b=none
structure Inv (X:Cx) (pins:List (Addr × Obj)) (σ:List (Option V)) (H:Hp) (s:Shared):Prop where
 ok:X.Ok
 os:s.os=X.s₀.os
 bare:AllBare s.gens
 base:Un X.fs X.ex X.H₀ H X.s₀.heap s.heap
 loc:∃ m,s.heap.Ns X.env.locals m∧∀ (i:Nat) (x:Str) (v:V),X.N[i]?=some x→σ[i]?=some (some v)→Vis X.env.scope x→∃ u,RelV v u∧Look X.env s.heap m x u
 cell:∀ x c,X.env.cells.lookup x=some c→∃ v,s.heap.IsCell c v
 free:H X.env.locals=none
 freeC:∀ x c,X.env.cells.lookup x=some c→H c=none
 pin:∀ p∈X.pn++pins,s.heap.get? p.1=some p.2∧H p.1=none∧p.1≠X.env.locals∧p.1∉X.fs∧∀ v,p.2.data≠.cell v
 hok:HOk X.prog X.w H s.heap
 len:σ.length=X.N.length
section
variable {X:Cx}{pins:List (Addr × Obj)}{σ:List (Option V)}{H H':Hp}{s:Shared}{h':Heap}
theorem Cx.Ok.nofr (ok:X.Ok) {b:Addr}{o:Obj} (e:X.base.get? b=some o):b∉X.fs:=fun hb=>by
 have:=(ok.funs.mem hb).1
 rw [e] at this; cases this
theorem Inv.bs (I:Inv X pins σ H s):∀ b o,X.base.get? b=some o→s.heap.get? b=some o∧H b=none:=fun b o e =>
 ⟨I.base.keep b o (I.ok.bs b o e).1 (I.ok.bs b o e).2 (I.ok.nofr e) (I.ok.noex b o e),I.base.free b o (I.ok.bs b o e).1 (I.ok.bs b o e).2 (I.ok.noex b o e)⟩
theorem Inv.bk (I:Inv X pins σ H s):∀ b o,X.base.get? b=some o→s.heap.get? b=some o:=fun b o e=>(I.bs b o e).1
theorem Inv.mod (I:Inv X pins σ H s):Mod X.K X.mg X.base:=I.ok.mod
theorem Inv.kIn (I:Inv X pins σ H s):X.K.In s.heap:=I.ok.mod.kin.keeps I.bk
theorem Inv.lt (I:Inv X pins σ H s):X.env.locals<s.heap.objs.size:=let ⟨_,hn,_⟩:=I.loc; hn.lt
theorem Inv.sz (I:Inv X pins σ H s):X.s₀.heap.objs.size≤s.heap.objs.size:=qC6 I.ok.above (qH0 I.lt)
theorem Inv.nofs (I:Inv X pins σ H s) {a:Addr} (h:s.heap.objs.size≤a):a∉X.fs:=fun hb=>by
 obtain ⟨_,o,ho,_⟩:=I.ok.funs.mem hb
 exact absurd (qB8 (qB1 ho) (qC6 I.sz h)) (qG3 _)
theorem Inv.cne (I:Inv X pins σ H s):∀ x c,X.env.cells.lookup x=some c→c≠X.env.locals:=fun x c e z=>by
 obtain ⟨v,o,ho,hd⟩:=I.cell x c e
 obtain ⟨m,⟨o',es,ep,ho',hd',_⟩,_⟩:=I.loc
 rw [z,ho'] at ho; cases ho; rw [hd'] at hd; cases hd
theorem Inv.funs (I:Inv X pins σ H s):s.heap.FunFrames X.base X.outer:=by
 have all:∀ (l:List Env),(∀ b∈frs l,b∈X.fs)→X.s₀.heap.FunFrames X.base l→s.heap.FunFrames X.base l:=by
  intro l
  induction l with
  | nil=>intro _ _; trivial
  | cons env r ih =>
   intro hs hl
   obtain ⟨hk,⟨L,o,hf,hn,ho,hd⟩,hr⟩:=hl
   have hL:L∈X.fs:=hs L (by unfold frs; rw [qH8,hf]; exact qF1)
   obtain ⟨sl,e⟩:=I.base.slot L o ho (I.ok.frf L hL) hL fun z=>I.ok.exfs L z hL
   exact ⟨hk,⟨L,_,hf,hn,e,hd⟩,ih (fun b hb=>hs b (by unfold frs; rw [qH8,hf]; exact qD6 _ hb)) hr⟩
 exact all X.outer (fun _ hb=>hb) I.ok.funs
theorem Inv.stack (I:Inv X pins σ H s):s.heap.FunFrames X.base X.stack:=by
 rcases I.ok.stk with e | ⟨e,hf⟩
 ·rw [e]; exact I.funs
 ·rw [e]
  obtain ⟨m,hn,_⟩:=I.loc
  refine .cons (by rw [I.ok.kind]; decide) hf hn ?_ I.funs
  exact Heap.get?_none_of_le (qC6 I.ok.bsz I.ok.above)
theorem Inv.stkSub (I:Inv X pins σ H s):∀ b∈frs X.stack,b∈X.env.locals::X.fs:=fun b hb=>by
 rcases I.ok.stk with e | ⟨e,hf⟩
 ·rw [e] at hb; exact qD6 _ hb
 ·rw [e] at hb
  unfold frs at hb
  rw [qH8,hf] at hb
  exact hb
theorem Inv.stkFree (I:Inv X pins σ H s):∀ b∈frs X.stack,H b=none:=fun b hb=>by
 rcases qB7.mp (I.stkSub b hb) with e | hb
 ·rw [e]; exact I.free
 ·obtain ⟨_,o,ho,_⟩:=I.ok.funs.mem hb
  exact I.base.free b o ho (I.ok.frf b hb) fun z=>I.ok.exfs b z hb
theorem Inv.step {g':Array GenState}{t':Nat}{d':Drawn}{ch:List Addr} (I:Inv X pins σ H s)
  (hch:∀ b∈ch,(b∈X.ex∨X.s₀.heap.objs.size≤b)∧b≠X.env.locals∧(∀ x c,X.env.cells.lookup x=some c→c≠b)∧∀ p∈X.pn++pins,p.1≠b)
  (keep:∀ b o,b≠X.env.locals→b∉X.fs→b∉ch→s.heap.get? b=some o→H b=none→h'.get? b=some o)
  (slot:∀ b o,b≠X.env.locals→b∈X.fs→b∉ch→s.heap.get? b=some o→H b=none→∃ sl,h'.get? b=some { o with slots:=sl }) (free:∀ b o,b∉ch→s.heap.get? b=some o→H b=none→H' b=none)
  (there:∀ b o,b∉ch→s.heap.get? b=some o→∃ o',h'.get? b=some o')
  (tups:∀ b xs,H b=some (.tup xs)→H' b=some (.tup xs)) (frzs:∀ b o u,H b=some (.frz o u)→H' b=some (.frz o u)) (tbls:∀ b ps,H b=some (.tbl ps)→∃ more,H' b=some (.tbl (ps++more)))
  (ns:∀ m,s.heap.Ns X.env.locals m→h'.Ns X.env.locals m) (hok:HOk X.prog X.w H' h') (hg:AllBare g') :
  Inv X pins σ H' { s with heap:=h',gens:=g',drawn:=d',toks:=t' }:=by
 have neL:∀ b o,X.s₀.heap.get? b=some o→b≠X.env.locals:=fun b o e=>qC3 (qB8 (qB1 e) I.ok.above)
 have neC:∀ b o,X.s₀.heap.get? b=some o→b∉X.ex→b∉ch:=fun b o e hx hb=>by
  rcases (hch b hb).1 with z | z
  ·exact hx z
  ·exact absurd (qB8 (qB1 e) z) (qG3 _)
 have cellK:∀ x c,X.env.cells.lookup x=some c→∀ v,s.heap.IsCell c v→h'.IsCell c v:=fun x c e v ⟨o,ho,hd⟩=>by
  have nch:c∉ch:=fun z=>(hch c z).2.2.1 x c e rfl
  by_cases hc:c∈X.fs
  ·obtain ⟨sl,q⟩:=slot c o (I.cne x c e) hc nch ho (I.freeC x c e)
   exact ⟨_,q,hd⟩
  ·exact ⟨o,keep c o (I.cne x c e) hc nch ho (I.freeC x c e),hd⟩
 refine ⟨I.ok,I.os,hg,⟨fun b o e n hb hx=>?_,fun b o e n hb hx=>?_,fun b o e n hx=>?_,fun b o e hx=>?_,fun b xs e=>tups b xs (I.base.tups b xs e),fun b o xs e=>frzs b o xs (I.base.frzs b o xs e),fun b ps e=>?_⟩,?_,fun x c e=>?_,?_,fun x c e=>?_,fun p hp=>?_,hok,I.len⟩
 ·exact keep b o (neL b o e) hb (neC b o e hx) (I.base.keep b o e n hb hx) (I.base.free b o e n hx)
 ·obtain ⟨sl,e1⟩:=I.base.slot b o e n hb hx
  obtain ⟨sl',e2⟩:=slot b _ (neL b o e) hb (neC b o e hx) e1 (I.base.free b o e n hx)
  exact ⟨sl',e2⟩
 ·obtain ⟨o',e1⟩:=I.base.there b o e hx
  exact free b o' (neC b o e hx) e1 (I.base.free b o e n hx)
 ·obtain ⟨o',e1⟩:=I.base.there b o e hx
  exact there b o' (neC b o e hx) e1
 ·obtain ⟨m1,e1⟩:=I.base.tbls b ps e
  obtain ⟨m2,e2⟩:=tbls b _ e1
  exact ⟨m1++m2,by rw [e2,Array.append_assoc]⟩
 ·obtain ⟨m,hn,hl⟩:=I.loc
  refine ⟨m,ns m hn,fun i x v e1 e2 e3=>?_⟩
  obtain ⟨u,r,l⟩:=hl i x v e1 e2 e3
  refine ⟨u,r,?_⟩
  rcases l with l | ⟨k,c,e,z⟩
  ·exact .inl l
  ·exact .inr ⟨k,c,e,cellK x c e _ z⟩
 ·obtain ⟨v,z⟩:=I.cell x c e
  exact ⟨v,cellK x c e v z⟩
 ·obtain ⟨m,⟨o,_,_,ho,_⟩,_⟩:=I.loc
  exact free _ o (fun z=>(hch _ z).2.1 rfl) ho I.free
 ·obtain ⟨v,o,ho,hd⟩:=I.cell x c e
  exact free c o (fun z=>(hch c z).2.2.1 x c e rfl) ho (I.freeC x c e)
 ·obtain ⟨e,n,ne,nf,d⟩:=I.pin p hp
  have nch:p.1∉ch:=fun z=>(hch p.1 z).2.2.2 p hp rfl
  exact ⟨keep p.1 p.2 ne nf nch e n,free p.1 p.2 nch e n,ne,nf,d⟩
theorem Inv.un {t':Nat} (I:Inv X pins σ H s) (u:Un X.fs [] H H' s.heap h') (hok:HOk X.prog X.w H' h'):Inv X pins σ H' { s with heap:=h',toks:=t' }:=by
 obtain ⟨m,⟨o,es,ep,ho,r⟩,_⟩:=id I.loc
 obtain ⟨sl,hL⟩:=u.any ho I.free (by simp)
 exact I.step (g':=s.gens) (d':=s.drawn) (ch:=[]) (fun _ z=>nomatch z) (fun b o _ hb _ e n=>u.keep b o e n hb (by simp)) (fun b o _ hb _ e n=>u.slot b o e n hb (by simp)) (fun b o _ e n=>u.free b o e n (by simp)) (fun b o _ e=>u.there b o e (by simp)) u.tups u.frzs u.tbls (fun m' hm=>by
  obtain ⟨o',es',ep',ho',r'⟩:=hm
  rw [ho] at ho'; cases ho'
  exact ⟨_,es',ep',hL,r'⟩) hok I.bare
theorem Inv.call {g':Array GenState}{t':Nat}{d':Drawn}{ch:List Addr} (I:Inv X pins σ H s) (u:Un (frs X.stack) ch H H' s.heap h') (hok:HOk X.prog X.w H' h') (hg:AllBare g')
  (hch:∀ b∈ch,(b∈X.ex∨X.s₀.heap.objs.size≤b)∧b≠X.env.locals∧(∀ x c,X.env.cells.lookup x=some c→c≠b)∧∀ p∈X.pn++pins,p.1≠b) :
  Inv X pins σ H' { s with heap:=h',gens:=g',drawn:=d',toks:=t' }:=by
 obtain ⟨m,⟨o,es,ep,ho,r⟩,_⟩:=id I.loc
 obtain ⟨sl,hL⟩:=u.any ho I.free fun z=>(hch _ z).2.1 rfl
 exact I.step (ch:=ch) hch (fun b o hL hb hc e n=>u.keep b o e n (fun z=>(qB7.mp (I.stkSub b z)).elim hL hb) hc) (fun b o _ _ hc e n=>u.any e n hc) (fun b o hc e n=>u.free b o e n hc) (fun b o hc e=>u.there b o e hc) u.tups u.frzs u.tbls (fun m' hm=>by
  obtain ⟨o',es',ep',ho',r'⟩:=hm
  rw [ho] at ho'; cases ho'
  exact ⟨_,es',ep',hL,r'⟩) hok hg
theorem Inv.turned {t':Nat}{it:Addr} (I:Inv X pins σ H s) (k:∀ b o,b≠it→s.heap.get? b=some o→h'.get? b=some o) (hn:H it=none) (hL:it≠X.env.locals)
  (h1:it∈X.ex∨X.s₀.heap.objs.size≤it) (h2:∀ x c,X.env.cells.lookup x=some c→c≠it) (h3:∀ p∈X.pn++pins,p.1≠it):Inv X pins σ H { s with heap:=h',toks:=t' }:=by
 have nit:∀ b u,H b=some u→b≠it:=fun b u e z=>by rw [z,hn] at e; cases e
 refine I.step (g':=s.gens) (d':=s.drawn) (ch:=[it]) (fun b hb=>?_) (fun b o _ _ hc e _=>k b o (fun z=>hc (by simp [z])) e) (fun b o _ _ hc e _=>⟨o.slots,k b o (fun z=>hc (by simp [z])) e⟩) (fun _ _ _ _ n=>n)
  (fun b o hc e=>⟨o,k b o (fun z=>hc (by simp [z])) e⟩) (fun _ _ e=>e) (fun _ _ _ e=>e) (fun b ps e=>⟨#[],by rw [e]; simp⟩) (fun m hm=>?_) (fun b u e=>?_) I.bare
 ·have e:b=it:=by simpa using hb
  subst e
  exact ⟨h1,hL,h2,h3⟩
 ·obtain ⟨o,es,ep,ho,r⟩:=hm
  exact ⟨o,es,ep,k _ o (Ne.symm hL) ho,r⟩
 ·refine (I.hok b u e).stay (fun c v hc q=>k c v ?_ q) (fun _ q=>q) fun _ _ q=>q
  rcases hc with z | z
  ·rw [z]; exact nit b u e
  ·exact nit c _ z
theorem Inv.tok (I:Inv X pins σ H s) (t:Nat):Inv X pins σ H { s with toks:=t }:=I.un (h':=s.heap) (t':=t) Un.refl I.hok
theorem Inv.kept {t':Nat} (I:Inv X pins σ H s) (k:∀ b u,s.heap.get? b=some u→h'.get? b=some u):Inv X pins σ H { s with heap:=h',toks:=t' }:=I.un (Un.kept k) (I.hok.kept k)
theorem Inv.laid {a:Addr}{o:HO}{t':Nat} (I:Inv X pins σ H s) (k:∀ b u,s.heap.get? b=some u→h'.get? b=some u) (hp:s.heap.objs.size≤a) (new:zCE X.prog X.w (upd H a o) h' a o) :
  Inv X pins σ (upd H a o) { s with heap:=h',toks:=t' }:=I.un (Un.laid k hp (I.hok.fresh hp)) (I.hok.laid k hp new)
theorem Inv.write {x e:Addr}{o:HO}{t':Nat} (I:Inv X pins σ H s) (mu:Mut (H x)) (he:e=x∨H e=some (.own x)) (k:∀ b u,b≠e→s.heap.get? b=some u→h'.get? b=some u) (heo:∃ u,h'.get? e=some u)
  (new:zCE X.prog X.w (upd H x o) h' x o):Inv X pins σ (upd H x o) { s with heap:=h',toks:=t' }:=I.un (Un.write mu he k heo) (I.hok.write mu he k heo new)
theorem Inv.weak {σ':List (Option V)} (I:Inv X pins σ H s) (hl:σ'.length=σ.length) (w:∀ (i:Nat) v,σ'[i]?=some (some v)→σ[i]?=some (some v)):Inv X pins σ' H s :=
 ⟨I.ok,I.os,I.bare,I.base,let ⟨m,hn,hl'⟩:=I.loc; ⟨m,hn,fun i x v e1 e2 e3=>hl' i x v e1 (w i v e2) e3⟩,I.cell,I.free,I.freeC,I.pin,I.hok,hl.trans I.len⟩
theorem Inv.pins_of {pins':List (Addr × Obj)} (I:Inv X pins σ H s) (h:∀ p∈pins',s.heap.get? p.1=some p.2∧H p.1=none∧p.1≠X.env.locals∧p.1∉X.fs∧∀ v,p.2.data≠.cell v):Inv X pins' σ H s :=
 ⟨I.ok,I.os,I.bare,I.base,I.loc,I.cell,I.free,I.freeC,fun p hp=>(qD2.mp hp).elim (fun z=>I.pin p (qH1 _ z)) (h p),I.hok,I.len⟩
theorem zMX {N:List Str} (hN:N.Nodup) {i j:Nat}{x:Str} (a:N[i]?=some x) (b:N[j]?=some x):i=j:=by
 obtain ⟨h1,e1⟩:=qA5.mp a
 obtain ⟨h2,e2⟩:=qA5.mp b
 exact (List.getElem_inj hN).mp (e1.trans e2.symm)
theorem zP6 {M:Model}{A:Around}{E:Value→Shared→Prop}{i:Nat}{x:Str}{v:V}{u:Value}{Q:Unit→Shared→Prop} (I:Inv X pins σ H s) (hN:X.N.Nodup) (hi:X.N[i]?=some x) (hx:Loc X.env.scope x) (r:RelV v u)
  (h:∀ s',Inv X pins (σ.set i (some v)) H s'→(∃ a,qE2 a s.heap s'.heap∧(a=X.env.locals∨X.env.cells.lookup x=some a))→Q () s') (hf:X.fn x=true∨X.env.scope.names.lookup x=some .local:=by first | exact .inl rfl | exact .inr rfl | assumption):wpAny M A (storeName X.env x u) Q E s:=by
 obtain ⟨m,hn,hl⟩:=id I.loc
 have hcls:(X.env.scope.kind == .class||(X.env.scope.kind == .module&&X.env.locals != X.env.globals))=false:=by rw [I.ok.kind]; rfl
 have hiσ:i<σ.length:=by rw [I.len]; exact (qA5.mp hi).1
 have cne:=I.cne
 have tracked:∀ {a:Addr}{h':Heap},(∃ o,s.heap.get? a=some o∧H a=none)→qE2 a s.heap h'→HOk X.prog X.w H h':=fun {a h'} ha hs b ob e=>by
  obtain ⟨_,_,hfree⟩:=ha
  refine (I.hok b ob e).stay (fun c w' hc q=>(hs.2 c ?_).trans q) (fun _ q=>q) fun _ _ q=>q
  rintro rfl
  rcases hc with rfl | hc
  ·rw [hfree] at e; cases e
  ·rw [hfree] at hc; cases hc
 rcases hx with hk | hk
 ·refine wpAny_storeName_local hk hn (fun h' hn' hs=>?_) hcls
  obtain ⟨oL,_,_,hoL,_⟩:=id hn
  refine h _ ⟨I.ok,I.os,I.bare,⟨fun b o e n hb hx=>?_,fun b o e n hb hx=>?_,I.base.free,fun b o e hx=>?_,I.base.tups,I.base.frzs,I.base.tbls⟩,⟨_,hn',fun j y v' e1 e2 e3=>?_⟩,fun y c e=>?_,I.free,I.freeC,fun p hp=>?_,tracked ⟨oL,hoL,I.free⟩ hs,by simpa using I.len⟩ ⟨_,hs,.inl rfl⟩
  ·exact (hs.2 b (qC3 (qB8 (qB1 e) I.ok.above))).trans (I.base.keep b o e n hb hx)
  ·obtain ⟨sl,e1⟩:=I.base.slot b o e n hb hx
   exact ⟨sl,(hs.2 b (qC3 (qB8 (qB1 e) I.ok.above))).trans e1⟩
  ·obtain ⟨o',e1⟩:=I.base.there b o e hx
   exact ⟨o',(hs.2 b (qC3 (qB8 (qB1 e) I.ok.above))).trans e1⟩
  ·by_cases hj:j=i
   ·subst hj
    rw [hi] at e1; cases e1
    rw [qD4 hiσ] at e2
    cases e2
    exact ⟨u,r,.inl ⟨hk,by simp⟩⟩
   ·rw [qD7 (Ne.symm hj)] at e2
    obtain ⟨u',r',q⟩:=hl j y v' e1 e2 e3
    refine ⟨u',r',?_⟩
    rcases q with ⟨k,e⟩ | ⟨k,c,e,z⟩
    ·refine .inl ⟨k,?_⟩
     have:y≠x:=fun e=>hj (zMX hN e1 (e▸hi))
     simp [this,e]
    ·exact .inr ⟨k,c,e,z.sameBut hs (cne y c e)⟩
  ·obtain ⟨w',z⟩:=I.cell y c e
   exact ⟨w',z.sameBut hs (cne y c e)⟩
  ·obtain ⟨e,n,ne,nf,d⟩:=I.pin p hp
   exact ⟨(hs.2 p.1 ne).trans e,n,ne,nf,d⟩
 ·have hfn:X.fn x=true:=by
   rcases hf with z | z
   ·exact z
   ·rw [z] at hk; cases hk
  obtain ⟨c,hc⟩:=I.ok.has x (.inl hk)
  obtain ⟨w',z⟩:=I.cell x c hc
  refine wpAny_storeName_cell I.ok.kind hk hc z (fun h' hc' hs=>?_)
  obtain ⟨oc,hoc,hocd⟩:=id z
  refine h { s with heap:=h' } ⟨I.ok,I.os,I.bare,⟨fun b o e n hb hx=>?_,fun b o e n hb hx=>?_,I.base.free,fun b o e hx=>?_,I.base.tups,I.base.frzs,I.base.tbls⟩,⟨m,hn.sameBut hs (Ne.symm (cne x c hc)),fun j y v' e1 e2 e3=>?_⟩,fun y c' e=>?_,I.free,I.freeC,fun p hp=>?_,tracked ⟨oc,hoc,I.freeC x c hc⟩ hs,by simpa using I.len⟩ ⟨c,hs,.inr hc⟩
  ·exact (hs.2 b (qC3 (qB8 (qB1 e) (I.ok.cab x c hfn hc)))).trans (I.base.keep b o e n hb hx)
  ·obtain ⟨sl,e1⟩:=I.base.slot b o e n hb hx
   exact ⟨sl,(hs.2 b (qC3 (qB8 (qB1 e) (I.ok.cab x c hfn hc)))).trans e1⟩
  ·obtain ⟨o',e1⟩:=I.base.there b o e hx
   exact ⟨o',(hs.2 b (qC3 (qB8 (qB1 e) (I.ok.cab x c hfn hc)))).trans e1⟩
  ·by_cases hj:j=i
   ·subst hj
    rw [hi] at e1; cases e1
    rw [qD4 hiσ] at e2
    cases e2
    exact ⟨u,r,.inr ⟨.inl hk,c,hc,hc'⟩⟩
   ·rw [qD7 (Ne.symm hj)] at e2
    obtain ⟨u',r',q⟩:=hl j y v' e1 e2 e3
    refine ⟨u',r',?_⟩
    rcases q with q | ⟨k,c',e,z'⟩
    ·exact .inl q
    ·refine .inr ⟨k,c',e,z'.sameBut hs ?_⟩
     rintro rfl
     exact hj (zMX hN e1 (I.ok.inj _ _ _ e hc▸hi))
  ·by_cases hcc:c'=c
   ·subst hcc; exact ⟨_,hc'⟩
   ·obtain ⟨w2,z2⟩:=I.cell y c' e
    exact ⟨w2,z2.sameBut hs hcc⟩
  ·obtain ⟨e,n,ne,nf,d⟩:=I.pin p hp
   refine ⟨(hs.2 p.1 ?_).trans e,n,ne,nf,d⟩
   intro q
   rw [q,hoc] at e
   have q':oc=p.2:=Option.some.inj e
   exact d w' (by rw [← q']; exact hocd)
theorem zRu {M:Model}{A:Around}{E:Value→Shared→Prop}{i:Nat}{x:Str}{v:V}{u:Value}{Q:Unit→Shared→Prop} (I:Inv X pins σ H s) (hN:X.N.Nodup) (hi:X.N[i]?=some x) (hx:Loc X.env.scope x) (r:RelV v u)
  (h:∀ s',Inv X pins (σ.set i (some v)) H s'→Q () s') (hf:X.fn x=true∨X.env.scope.names.lookup x=some .local:=by first | exact .inl rfl | exact .inr rfl | assumption):wpAny M A (storeName X.env x u) Q E s :=
 zP6 I hN hi hx r (fun s' I' _=>h s' I') hf
theorem Inv.call' {s':Shared}{ch:List Addr} (I:Inv X pins σ H s) (ho:s'.os=s.os) (u:Un (frs X.stack) ch H H' s.heap s'.heap) (hok:HOk X.prog X.w H' s'.heap) (hg:AllBare s'.gens)
  (hch:∀ b∈ch,(b∈X.ex∨X.s₀.heap.objs.size≤b)∧b≠X.env.locals∧(∀ x c,X.env.cells.lookup x=some c→c≠b)∧∀ p∈X.pn++pins,p.1≠b):Inv X pins σ H' s':=by
 obtain ⟨h',g',d',t',o'⟩:=s'
 have e:o'=s.os:=ho
 subst e
 exact I.call (g':=g') (t':=t') (d':=d') u hok hg hch
end
noncomputable abbrev XK:=Value→Option Addr→Hp→Prop
noncomputable abbrev St:=List (Option V)
noncomputable abbrev VK:=V→Hp→Prop
noncomputable abbrev TE:=St→Hp→VK→Prop
noncomputable abbrev TT:=St→Hp→(Bool→Hp→Prop)→Prop
noncomputable abbrev TA:=St→Hp→(List V→Hp→Prop)→Prop
structure Ends where
 nx:St→Hp→Prop
 rt:VK
 bk:St→Hp→Prop:=fun _ _=>False
 ct:St→Hp→Prop:=fun _ _=>False
noncomputable abbrev TS:=Ends→St→Hp→Prop
inductive EP (X:Cx) (pins:List (Addr × Obj)) (σ:St) (Q:VK) (u:Value) (s':Shared):Prop
 | mk (v:V) (H':Hp) (I:Inv X pins σ H' s') (r:RelV v u) (q:Q v H')
inductive TP (X:Cx) (pins:List (Addr × Obj)) (σ:St) (Q:Bool→Hp→Prop) (b:Bool) (s':Shared):Prop
 | mk (H':Hp) (I:Inv X pins σ H' s') (q:Q b H')
inductive AP (X:Cx) (pins:List (Addr × Obj)) (σ:St) (Q:List V→Hp→Prop) (us:List Value) (s':Shared):Prop
 | mk (vs:List V) (H':Hp) (I:Inv X pins σ H' s') (r:Vals vs us) (q:Q vs H')
def SP (X:Cx) (pins:List (Addr × Obj)) (D:Ends) (f:Flow) (s':Shared):Prop :=
 match f with
 | .next=>∃ σ' H',Inv X pins σ' H' s'∧D.nx σ' H'
 | .brk=>∃ σ' H',Inv X pins σ' H' s'∧D.bk σ' H'
 | .cont=>∃ σ' H',Inv X pins σ' H' s'∧D.ct σ' H'
 | .ret u=>∃ v σ' H',Inv X pins σ' H' s'∧RelV v u∧D.rt v H'
def PE (X:Cx) (e:Expr) (t:TE):Prop :=
 ∀ (pins:List (Addr × Obj)) (s:Shared) (σ:St) (H:Hp) (Q:VK),Inv X pins σ H s→t σ H Q→wpAny (model X.prog X.w) X.A (eval e X.env) (EP X pins σ Q) X.xe s
def PT (X:Cx) (e:Expr) (t:TT):Prop :=
 ∀ (pins:List (Addr × Obj)) (s:Shared) (σ:St) (H:Hp) (Q:Bool→Hp→Prop),Inv X pins σ H s→t σ H Q→wpAny (model X.prog X.w) X.A (isTrue e X.env (eval e X.env)) (TP X pins σ Q) X.xe s
def PW (X:Cx) (e:Expr) (t:TT):Prop :=
 ∀ (whole:Sem Value) (pins:List (Addr × Obj)) (s:Shared) (σ:St) (H:Hp) (Q:Bool→Hp→Prop),Inv X pins σ H s→t σ H Q→wpAny (model X.prog X.w) X.A (isTrue e X.env whole) (TP X pins σ Q) X.xe s
theorem PW.pt {X:Cx}{e:Expr}{t:TT} (h:PW X e t):PT X e t:=h _
def PA (X:Cx) (es:List Expr) (t:TA):Prop :=
 ∀ (pos:Pos) (pins:List (Addr × Obj)) (s:Shared) (σ:St) (H:Hp) (Q:List V→Hp→Prop),Inv X pins σ H s→t σ H Q→wpAny (model X.prog X.w) X.A (spliced (backTo pos (starEach es X.env))) (AP X pins σ Q) X.xe s
def PS (X:Cx) (st:Stmt) (t:TS):Prop :=
 ∀ (pins:List (Addr × Obj)) (s:Shared) (σ:St) (H:Hp) (D:Ends),Inv X pins σ H s→t D σ H→wpAny (model X.prog X.w) X.A (exec st X.env) (SP X pins D) X.xe s
def PSs (X:Cx) (st:List Stmt) (t:TS):Prop :=
 ∀ (pins:List (Addr × Obj)) (s:Shared) (σ:St) (H:Hp) (D:Ends),Inv X pins σ H s→t D σ H→wpAny (model X.prog X.w) X.A (execs st X.env) (SP X pins D) X.xe s
theorem thn {α:Type}{t:Sem α}{Q Q':α→Shared→Prop}{M:Model}{A:Around}{E:Value→Shared→Prop}{s:Shared} (h:wpAny M A t Q E s) (hQ:∀ a s,Q a s→Q' a s):wpAny M A t Q' E s:=wpAny_mono h hQ fun _ _ x=>x
section
variable {X:Cx}
noncomputable def tVar (i:Nat):TE:=fun σ H Q=>∃ v,σ[i]?=some (some v)∧Q v H
noncomputable def tC (v:V):TE:=fun _ H Q=>Q v H
theorem zWR {i:Nat}{x:Str}{pos:Pos} (hN:X.N[i]?=some x) (hv:Vis X.env.scope x) (hd:(x == ("__debug__":Str))=false:=by decide) (hcd:(x == ("__classdict__":Str))=false:=by decide):PE X (.Name x pos) (tVar i):=by
 intro pins s σ H Q I h
 obtain ⟨v,e,h⟩:=h
 obtain ⟨m,hn,hl⟩:=I.loc
 obtain ⟨u,r,l⟩:=hl i x v hN e hv
 have fin:EP X pins σ Q u s:=⟨v,H,I,r,h⟩
 rcases l with ⟨hk,hm⟩ | ⟨hk,c,hc,hcell⟩
 ·exact wpAny_Name (wpAny_loadName_local I.ok.kind hk hn hm fin) hd
 ·rcases hk with hk | hk
  ·exact wpAny_Name (wpAny_loadName_cell I.ok.kind hk hc hcell fin) hd
  ·exact wpAny_Name (wpAny_loadName_free I.ok.kind hk hc hcell fin hcd) hd
theorem zWY {i j pos}:PE X (.Constant (.int i) j pos) (tC (.int i)):=fun _ _ _ H _ I h=>wpAny_Constant_int ⟨.int i,H,I.tok _,⟨_,rfl⟩,h⟩
theorem zZZ {b j pos}:PE X (.Constant (.bool b) j pos) (tC (.bl b)):=fun _ _ _ H _ I h=>Constant_bool ⟨.bl b,H,I,rfl,h⟩
theorem zWW {j pos}:PE X (.Constant .none j pos) (tC .non):=fun _ _ _ H _ I h=>Constant_none ⟨.non,H,I,rfl,h⟩
theorem zWT {x j pos}:PE X (.Constant (.str x) j pos) (tC (.str x)):=fun _ _ _ H _ I h=>Calls.Constant_str ⟨.str x,H,I.tok _,⟨_,rfl⟩,h⟩
def Gl (X:Cx) (x:Str):Prop:=X.env.kindOf x=some .globalImplicit
theorem zUR {E:Value→Shared→Prop}{pins:List (Addr × Obj)}{s:Shared}{σ:St}{H:Hp}{x:Str}{u:Value}{pos:Pos}{Q:Value→Shared→Prop} (I:Inv X pins σ H s) (hg:Gl X x) (hm:X.mg x=some u) (h:Q u s)
  (hd:(x == ("__debug__":Str))=false:=by decide):wpAny (model X.prog X.w) X.A (eval (.Name x pos) X.env) Q E s :=
 Calls.Name_function_global I.ok.kind hg (Calls.loadGlobal_global (by rw [I.ok.glob]; exact I.mod.glob.keeps I.bk) hm h) hd
theorem zFf {E:Value→Shared→Prop}{pins:List (Addr × Obj)}{s:Shared}{σ:St}{H:Hp}{x:Str}{u:Value}{pos:Pos}{Q:Value→Shared→Prop} (I:Inv X pins σ H s) (hg:Gl X x) (hm:X.mg x=none) (hv:bootBuiltins x=some u) (h:Q u s)
  (hn:x ≠ "__name__":=by decide) (hd:(x == ("__debug__":Str))=false:=by decide):wpAny (model X.prog X.w) X.A (eval (.Name x pos) X.env) Q E s:=by
 obtain ⟨mb,h1,h2⟩:=I.mod.blt
 exact Calls.Name_function_global I.ok.kind hg (Calls.loadGlobal_builtin (by rw [I.ok.glob]; exact I.mod.glob.keeps I.bk) hm (by rw [I.ok.blt]; exact h1.keeps I.bk) ((h2 x hn).trans hv) h) hd
theorem zUy {x:Str}{v:V}{u:Value}{pos:Pos} (hg:Gl X x) (hm:X.mg x=none) (hv:bootBuiltins x=some u) (r:RelV v u) (hn:x ≠ "__name__":=by decide) (hd:(x == ("__debug__":Str))=false:=by decide):PE X (.Name x pos) (tC v) :=
 fun _ _ _ H _ I h=>zFf I hg hm hv ⟨v,H,I,r,h⟩ hn hd
variable {a b:Expr}{ta tb:TE}{pos:Pos}
variable {tA tB':TT}{rest:List Expr}
noncomputable def tAnd (t u:TT):TT:=fun σ H Q=>t σ H fun c H1=>if c=true then u σ H1 Q else Q false H1
noncomputable def tOr (t u:TT):TT:=fun σ H Q=>t σ H fun c H1=>if c=true then Q true H1 else u σ H1 Q
noncomputable def tNot (t:TT):TT:=fun σ H Q=>t σ H fun c H1=>Q (!c) H1
theorem zUa (ha:PT X a tA):PW X (.BoolOp .And [a] pos) tA:=by
 intro wh pins s σ H Q I h
 refine isTrue_and (thn (ha pins s σ H Q I h) fun c s1 e=>?_)
 cases c with
 | true=>exact isTrue_and_nil e
 | false=>exact e
theorem zWG (ha:PT X a tA):PW X (.BoolOp .Or [a] pos) tA:=by
 intro wh pins s σ H Q I h
 refine isTrue_or (thn (ha pins s σ H Q I h) fun c s1 e=>?_)
 cases c with
 | false=>exact isTrue_or_nil e
 | true=>exact e
theorem zWH (ha:PT X a tA) (hb:PW X (.BoolOp .And (b::rest) pos) tB'):PW X (.BoolOp .And (a::b::rest) pos) (tAnd tA tB'):=by
 intro wh pins s σ H Q I h
 refine isTrue_and (thn (ha pins s σ H _ I h) fun c s1 ⟨H1,I1,q1⟩=>?_)
 cases c with
 | true=>exact hb wh pins s1 σ H1 Q I1 q1
 | false=>exact ⟨H1,I1,q1⟩
theorem zZM (ha:PT X a tA) (hb:PW X (.BoolOp .Or (b::rest) pos) tB'):PW X (.BoolOp .Or (a::b::rest) pos) (tOr tA tB'):=by
 intro wh pins s σ H Q I h
 refine isTrue_or (thn (ha pins s σ H _ I h) fun c s1 ⟨H1,I1,q1⟩=>?_)
 cases c with
 | true=>exact ⟨H1,I1,q1⟩
 | false=>exact hb wh pins s1 σ H1 Q I1 q1
theorem zWI (ha:PT X a tA):PT X (.UnaryOp .Not a pos) (tNot tA):=by
 intro pins s σ H Q I h
 exact isTrue_not (thn (ha pins s σ H (fun c H1=>Q (!c) H1) I h) fun c s' ⟨H',I',q⟩=>⟨H',I',q⟩)
noncomputable def zZo (ta tb:TE):TE:=fun σ H Q=>ta σ H fun x H1=>∃ c,x=.bl c∧if c=true then tb σ H1 Q else Q (.bl false) H1
noncomputable def tOrV (ta tb:TE):TE:=fun σ H Q=>ta σ H fun x H1=>∃ c,x=.bl c∧if c=true then Q (.bl true) H1 else tb σ H1 Q
noncomputable def zZj (ta:TE):TE:=fun σ H Q=>ta σ H fun x H1=>∃ c,x=.bl c∧Q (.bl (!c)) H1
theorem zWU {op}{t:TE} (h:PE X a t):PE X (.BoolOp op [a] pos) t:=fun pins s σ H Q I hw=>BoolOp_one (h pins s σ H Q I hw)
theorem zWZ (ha:PE X a ta) (hb:PE X (.BoolOp .And (b::rest) pos) tb):PE X (.BoolOp .And (a::b::rest) pos) (zZo ta tb):=by
 intro pins s σ H Q I h
 refine BoolOp_and (thn (ha pins s σ H _ I h) fun v s1 ⟨x,H1,I1,r1,q1⟩=>?_)
 obtain ⟨c,rfl,q1⟩:=q1
 cases r1
 refine wpAny_truthy_bool ?_
 cases c with
 | true=>exact hb pins s1 σ H1 Q I1 q1
 | false=>exact ⟨.bl false,H1,I1,rfl,q1⟩
theorem zZV (ha:PE X a ta) (hb:PE X (.BoolOp .Or (b::rest) pos) tb):PE X (.BoolOp .Or (a::b::rest) pos) (tOrV ta tb):=by
 intro pins s σ H Q I h
 refine BoolOp_or (thn (ha pins s σ H _ I h) fun v s1 ⟨x,H1,I1,r1,q1⟩=>?_)
 obtain ⟨c,rfl,q1⟩:=q1
 cases r1
 refine wpAny_truthy_bool ?_
 cases c with
 | false=>exact hb pins s1 σ H1 Q I1 q1
 | true=>exact ⟨.bl true,H1,I1,rfl,q1⟩
theorem zWV (ha:PE X a ta):PE X (.UnaryOp .Not a pos) (zZj ta):=by
 intro pins s σ H Q I h
 refine UnaryOp_ (thn (ha pins s σ H _ I h) fun v s1 ⟨x,H1,I1,r1,q1⟩=>?_)
 obtain ⟨c,rfl,q1⟩:=q1
 cases r1
 exact not_of (wpAny_truthy_bool ⟨.bl (!c),H1,I1,rfl,q1⟩)
noncomputable def tIf (t:TT) (ta tb:TE):TE:=fun σ H Q=>t σ H fun c H1=>if c=true then ta σ H1 Q else tb σ H1 Q
theorem zRX {c:Expr} (hc:PT X c tA) (ha:PE X a ta) (hb:PE X b tb):PE X (.IfExp c a b pos) (tIf tA ta tb):=by
 intro pins s σ H Q I h
 refine wpAny_IfExp (thn (hc pins s σ H _ I h) fun d s1 ⟨H1,I1,q1⟩=>?_)
 cases d with
 | true=>exact ha pins s1 σ H1 Q I1 q1
 | false=>exact hb pins s1 σ H1 Q I1 q1
end
def SqL (K:W.Frag) (H:Hp) (a:Addr) (xs:List V):Prop :=
 Rd H a (.lst xs) ∨
  ∃ (o:Obj) (its:Array Value) (n:Nat),K.lookup a=some o∧o.cls=.type "list"∧o.dict=none∧o.data=.seq its n∧its.size≤sizeLine∧Vals xs its.toList
def SqT (K:W.Frag) (H:Hp) (a:Addr) (xs:List V):Prop :=
 Rd H a (.tup xs) ∨
  ∃ (o:Obj) (its:Array Value) (n:Nat),K.lookup a=some o∧o.cls=.type "tuple"∧o.data=.seq its n∧its.size≤sizeLine∧Vals xs its.toList
noncomputable def absV:Value→Option V
 | .none=>some .non
 | .bool b=>some (.bl b)
 | .int i _=>some (.int i)
 | .str x _=>some (.str x)
 | .bytes b _=>some (.byt b)
 | .float b _=>some (.flt b)
 | .ref a=>some (.ref a)
 | .type n=>some (.ty n)
 | _=>none
theorem RelV.abs {x:V}{u:Value} (r:RelV x u):absV u=some x:=by
 cases x with
 | non=>cases r; rfl
 | bl _=>cases r; rfl
 | int _=>obtain ⟨t,rfl⟩:=r; rfl
 | str _=>obtain ⟨t,rfl⟩:=r; rfl
 | byt _=>obtain ⟨t,rfl⟩:=r; rfl
 | flt _=>obtain ⟨t,rfl⟩:=r; rfl
 | ref _=>cases r; rfl
 | ty _=>cases r; rfl
theorem RelV.inj {x y:V}{u:Value} (r:RelV x u) (q:RelV y u):x=y:=Option.some.inj (r.abs.symm.trans q.abs)
theorem Vals.inj:∀ {xs ys:List V}{us:List Value},Vals xs us→Vals ys us→xs=ys
 | _,_,_,.nil,.nil=>rfl
 | _,_,_,.cons r t,.cons r' t'=>by rw [r.inj r',Vals.inj t t']
section
variable {X:Cx}{pins:List (Addr × Obj)}{σ:St}{H:Hp}{s:Shared}{a:Addr}{xs ys:List V}
theorem SqL.of {K:W.Frag} (h:H a=some (.lst xs)):SqL K H a xs:=.inl (.inl h)
theorem SqT.of {K:W.Frag} (h:H a=some (.tup xs)):SqT K H a xs:=.inl (.inl h)
theorem Inv.list (I:Inv X pins σ H s) (h:SqL X.K H a xs):∃ its:List Value,Vals xs its∧PlainL s.heap a its.toArray∧xs.length≤sizeLine:=by
 rcases h with h | ⟨o,its,n,hk,hc,hd,hs,hz,r⟩
 ·obtain ⟨z,its,n,r,e⟩:=h.ok I.hok
  exact ⟨its,r,⟨_,n,e,rfl,rfl,rfl⟩,z⟩
 ·refine ⟨its.toList,r,⟨o,n,I.kIn a o hk,hc,hd,by simpa using hs⟩,?_⟩
  have e:=r.length
  simp only [Array.length_toList] at e
  omega
theorem Inv.tuple (I:Inv X pins σ H s) (h:SqT X.K H a xs):∃ its:List Value,Vals xs its∧IsTup s.heap a its.toArray∧xs.length≤sizeLine:=by
 rcases h with h | ⟨o,its,n,hk,hc,hs,hz,r⟩
 ·obtain ⟨z,its,r,p⟩:=h.ok I.hok
  exact ⟨its,r,p,z⟩
 ·refine ⟨its.toList,r,⟨o,I.kIn a o hk,hc,n,by simpa using hs⟩,?_⟩
  have e:=r.length
  simp only [Array.length_toList] at e
  omega
theorem Inv.list_inj (I:Inv X pins σ H s) (h:SqL X.K H a xs) (h':SqL X.K H a ys):xs=ys:=by
 obtain ⟨its,r,⟨o,n,e,_,_,d⟩,_⟩:=I.list h
 obtain ⟨its',r',⟨o',n',e',_,_,d'⟩,_⟩:=I.list h'
 rw [e] at e'; cases e'
 rw [d] at d'
 injection d' with d1 _
 have:its=its':=by simpa using congrArg Array.toList d1
 subst this
 exact r.inj r'
theorem Inv.tuple_inj (I:Inv X pins σ H s) (h:SqT X.K H a xs) (h':SqT X.K H a ys):xs=ys:=by
 obtain ⟨its,r,⟨o,e,_,n,d⟩,_⟩:=I.tuple h
 obtain ⟨its',r',⟨o',e',_,n',d'⟩,_⟩:=I.tuple h'
 rw [e] at e'; cases e'
 rw [d] at d'
 injection d' with d1 _
 have:its=its':=by simpa using congrArg Array.toList d1
 subst this
 exact r.inj r'
end
noncomputable abbrev Cx.wish (X:Cx) (E:Value→Shared→Prop):Cx:={ X with xe:=E }
noncomputable abbrev Cx.nox (X:Cx):Cx:=X.wish fun _ _=>False
theorem Cx.Ok.wish {X:Cx} (ok:X.Ok) (E:Value→Shared→Prop):(X.wish E).Ok :=
 ⟨ok.mod,ok.kind,ok.glob,ok.blt,ok.above,ok.inj,ok.has,ok.cab,ok.hd,ok.frames,ok.stk,ok.exf,ok.bs,ok.bsz,ok.noex,ok.exfs,ok.funs,ok.frf⟩
theorem Cx.Ok.unwish {X:Cx}{E:Value→Shared→Prop} (ok:(X.wish E).Ok):X.Ok :=
 ⟨ok.mod,ok.kind,ok.glob,ok.blt,ok.above,ok.inj,ok.has,ok.cab,ok.hd,ok.frames,ok.stk,ok.exf,ok.bs,ok.bsz,ok.noex,ok.exfs,ok.funs,ok.frf⟩
section
variable {X:Cx}{pins:List (Addr × Obj)}{σ:St}{H:Hp}{s:Shared}{E:Value→Shared→Prop}
theorem Inv.wish (I:Inv X pins σ H s) (E:Value→Shared→Prop):Inv (X.wish E) pins σ H s:=⟨I.ok.wish E,I.os,I.bare,I.base,I.loc,I.cell,I.free,I.freeC,I.pin,I.hok,I.len⟩
theorem Inv.unwish (I:Inv (X.wish E) pins σ H s):Inv X pins σ H s:=⟨I.ok.unwish,I.os,I.bare,I.base,I.loc,I.cell,I.free,I.freeC,I.pin,I.hok,I.len⟩
theorem SP.unwish {D:Ends}{f:Flow}{s':Shared} (h:SP (X.wish E) pins D f s'):SP X pins D f s':=by
 cases f with
 | next=>obtain ⟨σ',H',I,q⟩:=h; exact ⟨σ',H',I.unwish,q⟩
 | brk=>obtain ⟨σ',H',I,q⟩:=h; exact ⟨σ',H',I.unwish,q⟩
 | cont=>obtain ⟨σ',H',I,q⟩:=h; exact ⟨σ',H',I.unwish,q⟩
 | ret u=>obtain ⟨v,σ',H',I,r,q⟩:=h; exact ⟨v,σ',H',I.unwish,r,q⟩
theorem PSs.nox {st:List Stmt}{t:TS} (h:PSs X.nox st t):PSs X st t:=fun pins s σ H D I hw =>
 wpAny_mono (h pins s σ H D (I.wish _) hw) (fun _ _ q=>q.unwish) fun _ _ z=>False.elim z
end
section
variable {X:Cx}{st:Stmt}{rest:List Stmt}{t u:TS}{e:Expr}{te:TE}{pos:Pos}
noncomputable def zW1:TS:=fun D σ H=>D.nx σ H
noncomputable def tSeq (t u:TS):TS:=fun D σ H=>t { D with nx:=u D } σ H
theorem zUe:PSs X [] zW1:=fun _ _ σ H _ I h=>wpAny_execs_nil ⟨σ,H,I,h⟩
theorem zRP (h1:PS X st t) (h2:PSs X rest u):PSs X (st::rest) (tSeq t u):=by
 intro pins s σ H D I h
 refine wpAny_execs_cons (thn (h1 pins s σ H { D with nx:=u D } I h) fun f s1 q=>?_)
 cases f with
 | next =>
  obtain ⟨σ',H',I',q⟩:=q
  exact h2 pins s1 σ' H' D I' q
 | ret v=>exact q
 | brk=>exact q
 | cont=>exact q
noncomputable def zW5:TS:=fun D σ H=>D.bk σ H
noncomputable def zZm:TS:=fun D σ H=>D.ct σ H
theorem zUh:PS X (.Pass pos) zW1:=fun _ _ σ H _ I h=>wpAny_Pass ⟨σ,H,I,h⟩
theorem zRS:PS X (.Break pos) zW5:=fun _ _ σ H _ I h=>wpAny_Break ⟨σ,H,I,h⟩
theorem zLv:PS X (.Continue pos) zZm:=fun _ _ σ H _ I h=>wpAny_Continue ⟨σ,H,I,h⟩
theorem Inv.quiet {pins:List (Addr × Obj)}{σ:St}{H:Hp}{s:Shared} (I:Inv X pins σ H s):interactive X.env=false:=by simp [interactive,I.ok.kind]
noncomputable def zZk (te:TE):TS:=fun D σ H=>te σ H fun _ H1=>D.nx σ H1
theorem zUi (he:PE X e te) (hs:swapsWith e none pos.line X.env=pure false:=by rfl):PS X (.Expr e pos) (zZk te):=by
 intro pins s σ H D I h
 exact wpAny_Expr_any (thn (he pins s σ H _ I h) fun v s1 ⟨x,H1,I1,r1,q1⟩=>⟨σ,H1,I1,q1⟩) I.quiet hs
noncomputable def tRet (te:TE):TS:=fun D σ H=>te σ H D.rt
theorem zWJ (he:PE X e te):PS X (.Return (some e) pos) (tRet te):=by
 intro pins s σ H D I h
 exact wpAny_Return_some (thn (he pins s σ H _ I h) fun v s1 ⟨x,H1,I1,r1,q1⟩=>⟨x,σ,H1,I1,r1,q1⟩)
noncomputable def zZh:TS:=fun D _ H=>D.rt .non H
theorem zUg:PS X (.Return none pos) zZh:=fun _ _ σ H _ I h=>wpAny_Return_none ⟨.non,σ,H,I,rfl,h⟩
noncomputable def tIfS (c:TT) (t u:TS):TS:=fun D σ H=>c σ H fun b H1=>if b=true then t D σ H1 else u D σ H1
theorem zZN {c:Expr}{a b:List Stmt}{tc:TT} (hc:PT X c tc) (ha:PSs X a t) (hb:PSs X b u):PS X (.If c a b pos) (tIfS tc t u):=by
 intro pins s σ H D I h
 refine wpAny_If (thn (hc pins s σ H _ I h) fun d s1 ⟨H1,I1,q1⟩=>?_)
 cases d with
 | true=>exact ha pins s1 σ H1 D I1 q1
 | false=>exact hb pins s1 σ H1 D I1 q1
noncomputable def zW2:TS:=fun _ _ _=>False
theorem zRR:PS X st zW2:=fun _ _ _ _ _ _ h=>h.elim
end
noncomputable abbrev TG:=V→St→Hp→(St→Hp→Prop)→Prop
noncomputable abbrev TGs:=List V→St→Hp→(St→Hp→Prop)→Prop
def PG (X:Cx) (target:Expr) (t:TG):Prop :=
 ∀ (pins:List (Addr × Obj)) (s:Shared) (σ:St) (H:Hp) (v:V) (u:Value) (Q:St→Hp→Prop),Inv X pins σ H s→RelV v u→t v σ H Q →
  wpAny (model X.prog X.w) X.A (assign target X.env u) (fun _ s'=>∃ σ' H',Inv X pins σ' H' s'∧Q σ' H') X.xe s
def PGs (X:Cx) (ts:List Expr) (t:TGs):Prop :=
 ∀ (pins:List (Addr × Obj)) (s:Shared) (σ:St) (H:Hp) (vs:List V) (us:List Value) (Q:St→Hp→Prop),Inv X pins σ H s→Vals vs us→t vs σ H Q →
  wpAny (model X.prog X.w) X.A (assignInOrder ((assignEach ts X.env).map (·.2)) us) (fun _ s'=>∃ σ' H',Inv X pins σ' H' s'∧Q σ' H') X.xe s
noncomputable abbrev TSet:=V→V→V→Hp→(Hp→Prop)→Prop
def PSet (X:Cx) (t:TSet):Prop :=
 ∀ (pins:List (Addr × Obj)) (s:Shared) (σ:St) (H:Hp) (o i v:V) (ov iv u:Value) (Q:Hp→Prop),Inv X pins σ H s→RelV o ov→RelV i iv→RelV v u→t o i v H Q →
  wpAny (model X.prog X.w) X.A (setItem ov iv u) (fun _ s'=>∃ H',Inv X pins σ H' s'∧Q H') X.xe s
section
variable {X:Cx}{pos:Pos}
noncomputable def zLR (i:Nat):TG:=fun v σ H Q=>Q (σ.set i (some v)) H
theorem zJb {i:Nat}{x:Str} (hN:X.N.Nodup) (hi:X.N[i]?=some x) (hx:Loc X.env.scope x) (hf:X.fn x=true∨X.env.scope.names.lookup x=some .local:=by first | exact .inl rfl | exact .inr rfl | assumption):PG X (.Name x pos) (zLR i):=by
 intro pins s σ H v u Q I r h
 exact wpAny_assign_Name (zRu I hN hi hx r (fun s' I'=>⟨_,H,I',h⟩) hf)
noncomputable def gNil:TGs:=fun vs σ H Q=>vs=[]∧Q σ H
noncomputable def zXX (t:TG) (u:TGs):TGs:=fun vs σ H Q=>∃ v r,vs=v::r∧t v σ H fun σ' H'=>u r σ' H' Q
theorem zPx:PGs X [] gNil:=by
 intro pins s σ H vs us Q I r h
 obtain ⟨e,h⟩:=h
 subst e
 cases r
 exact assignInOrder_nil ⟨σ,H,I,h⟩
theorem zMQ {e:Expr}{es:List Expr}{t:TG}{u:TGs} (h1:PG X e t) (h2:PGs X es u)
  (hs:(assignEach (e::es) X.env).map (·.2)=assign e X.env::(assignEach es X.env).map (·.2):=by rfl):PGs X (e::es) (zXX t u):=by
 intro pins s σ H vs us Q I r h
 obtain ⟨v,vr,e1,h⟩:=h
 subst e1
 cases r with
 | cons r rr =>
  rw [hs]
  refine assignInOrder_cons (thn (h1 pins s σ H _ _ _ I r h) fun _ s1 ⟨σ1,H1,I1,q1⟩=>?_)
  exact h2 pins s1 σ1 H1 _ _ Q I1 rr q1
noncomputable def gTup (K:W.Frag) (n:Nat) (t:TGs):TG:=fun v σ H Q=>∃ a xs,v=.ref a∧SqT K H a xs∧xs.length=n∧t xs σ H Q
theorem zT4 {es:List Expr}{k:Nat}{t:TGs}{n:Nat} (hc:X.calm=true) (h:PGs X es t)
  (hn:(assignEach es X.env).length=n:=by rfl) (hst:(assignEach es X.env).findIdx? (·.1)=none:=by rfl):PG X (.Tuple es k pos) (gTup X.K n t):=by
 intro pins s σ H v u Q I r hw
 obtain ⟨a,xs,e1,hq,hl,hw⟩:=hw
 subst e1
 cases r
 obtain ⟨its,rv,ht,hz⟩:=I.tuple hq
 refine assign_Tuple_tuple (I.ok.hd hc) ht (by simp [hn,← hl,rv.length]) hst fun h' hx=>?_
 have I1:Inv X pins σ H { s with heap:=h' }:=I.kept (t':=s.toks) fun b o e=>hx b o (qC3 (qB1 e)) e
 exact h pins _ σ H xs _ Q I1 (by simpa using rv) hw
noncomputable def gSub (to ti:TE) (t:TSet):TG:=fun v σ H Q=>to σ H fun o H1=>ti σ H1 fun i H2=>t o i v H2 fun H3=>Q σ H3
theorem zWQ {o i:Expr}{to ti:TE}{t:TSet} (ho:PE X o to) (hi:PE X i ti) (hs:PSet X t)
  (ha:∀ v,assign (.Subscript o i pos) X.env v=(do
   let ov ← holding [v] (eval o X.env)
   let iv ← holding [v,ov] (eval i X.env)
   standAt pos
   holding [v,ov,iv] (setItem ov iv v)
   release [v,ov,iv] []):=by intro _; rfl):PG X (.Subscript o i pos) (gSub to ti t):=by
 intro pins s σ H v u Q I r h
 rw [ha]
 refine wpAny_bind (wpAny_holding (thn (ho pins s σ H _ I h) fun ov s1 ⟨x,H1,I1,r1,q1⟩=>?_))
 refine wpAny_bind (wpAny_holding (thn (hi pins s1 σ H1 _ I1 q1) fun iv s2 ⟨y,H2,I2,r2,q2⟩=>?_))
 refine wpAny_bind (wpAny_standAt (wpAny_bind (wpAny_holding (thn (hs pins s2 σ H2 x y v ov iv u _ I2 r1 r2 r q2) fun _ s3 ⟨H3,I3,q3⟩=>?_))))
 exact wpAny_release ⟨σ,H3,I3,q3⟩
noncomputable def tAsg (te:TE) (g:TG):TS:=fun D σ H=>te σ H fun x H1=>g x σ H1 D.nx
theorem zWL {tg e:Expr}{te:TE}{g:TG} (he:PE X e te) (hg:PG X tg g) (hs:swapsWithSole [tg] e pos.line X.env=pure false:=by rfl) (hw:swappedStores [tg] e X.env=pure none:=by rfl)
  (h1:(assignEach [tg] X.env).map (·.2)=[assign tg X.env]:=by rfl):PS X (.Assign [tg] e pos) (tAsg te g):=by
 intro pins s σ H D I h
 refine wpAny_Assign_stores (thn (he pins s σ H _ I h) fun v s1 ⟨x,H1,I1,r1,q1⟩=>?_) hs hw
 rw [h1]
 exact thn (hg pins s1 σ H1 x v _ I1 r1 q1) fun _ s2 q=>q
end
section
variable {X:Cx}{pos:Pos}
noncomputable def zW0 (c:TT) (tb:TS):TS:=fun D σ H=>∃ W:Nat→St→Hp→Prop,(∃ m,W m σ H)∧∀ m σ H,W m σ H →
 c σ H fun b H1=>if b=true then ∃ N:St→Hp→Prop,(∀ σ' H',N σ' H'→∃ m',m'<m∧W m' σ' H')∧tb { D with nx:=N,ct:=N,bk:=D.nx } σ H1 else D.nx σ H1
theorem zRQ {c:Expr}{body:List Stmt}{tc:TT}{tb:TS} (hp:PassesOwn (model X.prog X.w) X.A X.env X.xe) (hc:PT X c tc) (hb:PSs X body tb):PS X (.While c body [] pos) (zW0 tc tb):=by
 intro pins s σ H D I h
 obtain ⟨W,⟨m0,w0⟩,turn⟩:=h
 refine wpAny_While (codeAny_whileLoop (fun n s'=>∃ σ' H',Inv X pins σ' H' s'∧W n σ' H') ?_ m0 ⟨σ,H,I,w0⟩)
 rintro n s1 ⟨σ1,H1,I1,w1⟩
 refine wpAny_passesOwn hp (thn (hc pins s1 σ1 H1 _ I1 (turn n σ1 H1 w1)) fun b s2 ⟨H2,I2,q2⟩=>?_)
 cases b with
 | true =>
  obtain ⟨N,hN,q2⟩:=q2
  rw [if_pos rfl]
  refine wpAny_passesOwn hp (thn (hb pins s2 σ1 H2 _ I2 q2) fun f s3 q3=>?_)
  cases f with
  | next =>
   obtain ⟨σ3,H3,I3,n3⟩:=q3
   obtain ⟨m',hm,w3⟩:=hN σ3 H3 n3
   exact ⟨m',hm,σ3,H3,I3,w3⟩
  | cont =>
   obtain ⟨σ3,H3,I3,n3⟩:=q3
   obtain ⟨m',hm,w3⟩:=hN σ3 H3 n3
   exact ⟨m',hm,σ3,H3,I3,w3⟩
  | brk=>exact q3
  | ret v=>exact q3
 | false =>
  rw [if_neg qA7]
  exact wpAny_execs_nil ⟨σ1,H2,I2,q2⟩
end
structure It where
 go:Nat→Hp→Prop
 yld:Nat→Hp→V→Hp→Prop
 stop:Nat→Hp→Prop
def FpOk (X:Cx) (pins:List (Addr × Obj)) (H:Hp) (b:Addr):Prop :=
 H b=none∧b≠X.env.locals∧b∉X.fs∧(b∈X.ex∨X.s₀.heap.objs.size≤b)∧(∀ x c,X.env.cells.lookup x=some c→c≠b)∧∀ p∈X.pn++pins,p.1≠b
theorem Inv.fpOk {X:Cx}{pins:List (Addr × Obj)}{σ:St}{H H':Hp}{s:Shared}{b:Addr} (I:Inv X pins σ H s) (hb:s.heap.objs.size≤b) (hn:H' b=none):FpOk X pins H' b:=by
 refine ⟨hn,qH2 (qB8 I.lt hb),I.nofs hb,.inr (qC6 I.sz hb),fun x c e z=>?_,fun p hp z=>?_⟩
 ·obtain ⟨v,q⟩:=I.cell x c e
  exact absurd (qB8 q.lt (by rw [z]; exact hb)) (qG3 _)
 ·exact absurd (qB8 (qB1 (I.pin p hp).1) (by rw [z]; exact hb)) (qG3 _)
structure Turn (P:Program) (w:World) (K:W.Frag) (tg:Expr) (J:It) (fp:List Addr) (it:Addr) (tn:Nat→Heap→Prop):Prop where
 mem:it∈fp
 obj:∀ i h,tn i h→∀ b∈fp,∃ o,h.get? b=some o∧∀ v,o.data≠.cell v
 keep:∀ i h h',tn i h→(∀ b∈fp,∀ o,h.get? b=some o→h'.get? b=some o)→tn i h'
 item:∀ (X:Cx),X.prog=P→X.w=w→X.K=K→X.calm=true→∀ (i:Nat) (pins:List (Addr × Obj)) (s:Shared) (σ:St) (H:Hp) (E:Value→Shared→Prop),Inv X pins σ H s→(∀ b∈fp,FpOk X pins H b)→tn i s.heap→J.go i H →
  wpAny (model P w) X.A (pyNext (.ref it)) (fun r s1=>∃ u,r=some u ∧
   wpAny (model P w) X.A (letOwnedTupleGo tg (.ref it) u) (fun _ s2=>∃ x H',Inv X pins σ H' s2∧RelV x u∧J.yld i H x H'∧tn (i+1) s2.heap∧∀ b∈fp,H' b=none) E s1) E s
 done:∀ (X:Cx),X.prog=P→X.w=w→X.K=K→X.calm=true→∀ (i:Nat) (pins:List (Addr × Obj)) (s:Shared) (σ:St) (H:Hp) (E:Value→Shared→Prop),Inv X pins σ H s→(∀ b∈fp,FpOk X pins H b)→tn i s.heap→J.stop i H →
  wpAny (model P w) X.A (pyNext (.ref it)) (fun r s1=>r=none∧Inv X pins σ H s1) E s
 self:∀ (A:Around) (i:Nat) (s:Shared) (Q:Value→Shared→Prop) (E:Value→Shared→Prop),tn i s.heap→Q (.ref it) s→wpAny (model P w) A (pyIter (.ref it)) Q E s
noncomputable abbrev TI:=St→Hp→(It→Hp→Prop)→Prop
inductive PIE (X:Cx) (pins:List (Addr × Obj)) (σ:St) (tg:Expr) (R:It→Hp→Prop) (itv:Value) (s2:Shared):Prop
 | mk (it:Addr) (fp:List Addr) (tn:Nat→Heap→Prop) (J:It) (H':Hp) (e:itv=.ref it) (I:Inv X pins σ H' s2) (T:Turn X.prog X.w X.K tg J fp it tn) (t0:tn 0 s2.heap) (f:∀ b∈fp,FpOk X pins H' b) (r:R J H')
def PI (X:Cx) (tg iter:Expr) (wi:TI):Prop :=
 ∀ (pins:List (Addr × Obj)) (s:Shared) (σ:St) (H:Hp) (R:It→Hp→Prop),Inv X pins σ H s→wi σ H R →
  wpAny (model X.prog X.w) X.A (eval iter X.env) (fun v s1=>wpAny (model X.prog X.w) X.A (pyIter v) (PIE X pins σ tg R) X.xe s1) X.xe s
theorem zSz {M:Model}{A:Around}{E:Value→Shared→Prop}{s:Shared}{tg:Expr}{it:Addr}{u:Value}{o:Obj}{n:String}{vs:Array Value}{Q:Unit→Shared→Prop} (ho:s.heap.get? it=some o) (hc:o.cls=.type n) (hd:o.data=.fields vs)
    (hn:["enumerate","zip","dict_itemiterator","dict_reverseitemiterator","odict_iterator","itertools.zip_longest","itertools.pairwise"].contains n=false) (hQ:Q () s):wpAny M A (letOwnedTupleGo tg (.ref it) u) Q E s:=by
  unfold letOwnedTupleGo
  cases tg <;> first
    | exact wpAny_pure hQ
    | (cases u <;> first
        | exact wpAny_pure hQ
        | (refine wpAny_bind (wpAny_load ho ?_)
           rw [hc,hd]
           show wpAny M A (if (["enumerate","zip","dict_itemiterator","dict_reverseitemiterator","odict_iterator","itertools.zip_longest","itertools.pairwise"].contains n&&vs[0]? == some (rawInt _))=true then _ else _) Q E s
           rw [if_neg (by intro h; rw [hn,qO5] at h; cases h)]
           exact wpAny_pure hQ))
noncomputable def Itl (K:W.Frag) (a:Addr):It :=
 ⟨fun i H=>∃ xs x,SqL K H a xs∧xs[i]?=some x,fun i H x H'=>H'=H∧∀ xs,SqL K H a xs→xs[i]?=some x,fun i H=>∃ xs,SqL K H a xs∧xs.length≤i⟩
noncomputable def Itt (K:W.Frag) (a:Addr):It :=
 ⟨fun i H=>∃ xs x,SqT K H a xs∧xs[i]?=some x,fun i H x H'=>H'=H∧∀ xs,SqT K H a xs→xs[i]?=some x,fun i H=>∃ xs,SqT K H a xs∧xs.length≤i⟩
noncomputable def Itr (lo:Int) (n:Nat):It:=⟨fun i _=>i<n,fun i H x H'=>H'=H∧x=.int (lo+i),fun i _=>n≤i⟩
theorem zOR {P:Program}{w:World}{K:W.Frag}{tg:Expr} (a it:Addr):Turn P w K tg (Itl K a) [it] it (fun i h=>h.IsListIter it a i) where
 mem:=by simp
 obj:=fun i h st b hb=>by
  have e:b=it:=by simpa using hb
  subst e
  obtain ⟨o,e,c,d⟩:=st
  exact ⟨o,e,fun v z=>by rw [d] at z; cases z⟩
 keep:=fun i h h' st k=>st.at fun o e=>k it (by simp) o e
 item:=by
  intro X hP hw hK hc i pins s σ H E I hf st hg
  subst hP hw hK
  obtain ⟨xs,x,hq,hx⟩:=hg
  obtain ⟨its,rv,p,hz⟩:=I.list hq
  obtain ⟨u,hu,ru⟩:=rv.get hx
  obtain ⟨f0,f1,f2,f3,f4,f5⟩:=hf it (by simp)
  refine wpAny_pyNext_list_item st p.isList (x:=u) (by simpa using hu) fun h' st' sb=>?_
  have I1:Inv X pins σ H { s with heap:=h' }:=I.turned (t':=s.toks) (fun b o hb e=>(sb.2 b hb).trans e) f0 f1 f3 f4 f5
  obtain ⟨o,e,c,d⟩:=id st'
  exact ⟨u,rfl,zSz (s:={ s with heap:=h' }) e c d (by decide) ⟨x,H,I1,ru,⟨rfl,fun ys hy=>by rw [I.list_inj hy hq]; exact hx⟩,st',fun b hb=>(hf b hb).1⟩⟩
 done:=by
  intro X hP hw hK hc i pins s σ H E I hf st hg
  subst hP hw hK
  obtain ⟨xs,hq,hx⟩:=hg
  obtain ⟨its,rv,p,hz⟩:=I.list hq
  obtain ⟨f0,f1,f2,f3,f4,f5⟩:=hf it (by simp)
  have hl:=rv.length
  exact wpAny_pyNext_list_end (I.ok.hd hc) st p.isList (by simp; omega) fun h' eb=>⟨rfl,I.turned (t':=s.toks) (fun b o hb e=>eb b o hb e) f0 f1 f3 f4 f5⟩
 self:=fun _ _ _ _ _ st h=>wpAny_pyIter_listiter st h
theorem zNy {P:Program}{w:World}{K:W.Frag}{tg:Expr} (a it:Addr):Turn P w K tg (Itt K a) [it] it (fun i h=>h.IsTupleIter it a i) where
 mem:=by simp
 obj:=fun i h st b hb=>by
  have e:b=it:=by simpa using hb
  subst e
  obtain ⟨o,e,c,d⟩:=st
  exact ⟨o,e,fun v z=>by rw [d] at z; cases z⟩
 keep:=fun i h h' st k=>st.at fun o e=>k it (by simp) o e
 item:=by
  intro X hP hw hK hc i pins s σ H E I hf st hg
  subst hP hw hK
  obtain ⟨xs,x,hq,hx⟩:=hg
  obtain ⟨its,rv,p,hz⟩:=I.tuple hq
  obtain ⟨u,hu,ru⟩:=rv.get hx
  obtain ⟨f0,f1,f2,f3,f4,f5⟩:=hf it (by simp)
  refine wpAny_pyNext_tuple_item st (show s.heap.IsTuple a its.toArray from p) (x:=u) (by simpa using hu) fun h' st' sb=>?_
  have I1:Inv X pins σ H { s with heap:=h' }:=I.turned (t':=s.toks) (fun b o hb e=>(sb.2 b hb).trans e) f0 f1 f3 f4 f5
  obtain ⟨o,e,c,d⟩:=id st'
  exact ⟨u,rfl,zSz (s:={ s with heap:=h' }) e c d (by decide) ⟨x,H,I1,ru,⟨rfl,fun ys hy=>by rw [I.tuple_inj hy hq]; exact hx⟩,st',fun b hb=>(hf b hb).1⟩⟩
 done:=by
  intro X hP hw hK hc i pins s σ H E I hf st hg
  subst hP hw hK
  obtain ⟨xs,hq,hx⟩:=hg
  obtain ⟨its,rv,p,hz⟩:=I.tuple hq
  obtain ⟨f0,f1,f2,f3,f4,f5⟩:=hf it (by simp)
  have hl:=rv.length
  exact wpAny_pyNext_tuple_end (I.ok.hd hc) st (show s.heap.IsTuple a its.toArray from p) (by simp; omega) fun h' eb=>⟨rfl,I.turned (t':=s.toks) (fun b o hb e=>eb b o hb e) f0 f1 f3 f4 f5⟩
 self:=fun _ _ _ _ _ st h=>wpAny_pyIter_tupleiter st h
theorem zNz {P:Program}{w:World}{K:PySem.W.Frag}{tg:Expr} (it:Addr) (lo:Int) (n:Nat):Turn P w K tg (Itr lo n) [it] it (fun i h=>IsRangeIter h it (lo+(i:Nat)*1) ((n:Int) - (i:Nat)) 1) where
 mem:=by simp
 obj:=fun i h st b hb=>by
  have e:b=it:=by simpa using hb
  subst e
  exact ⟨_,st,fun v z=>by
   have z':Data.fields _=Data.cell v:=z
   cases z'⟩
 keep:=fun i h h' st k=>k it (by simp) _ st
 item:=by
  intro X hP hw hK hc i pins s σ H E I hf st hg
  subst hP hw hK
  obtain ⟨f0,f1,f2,f3,f4,f5⟩:=hf it (by simp)
  have W:=Walks.range (prog:=X.prog) (w:=X.w) (I.ok.hd hc) it lo 1 n
  refine W.item i s _ _ hg st fun v h' tk hv st' kk=>?_
  obtain ⟨t,rfl⟩:=hv
  have I1:Inv X pins σ H { s with heap:=h',toks:=tk }:=I.turned (fun b o hb e=>kk b o (by simpa using hb) e) f0 f1 f3 f4 f5
  refine ⟨_,rfl,zSz (s:={ s with heap:=h',toks:=tk }) (n := "range_iterator") st' rfl rfl (by decide) ⟨.int (lo+i),H,I1,⟨t,?_⟩,⟨rfl,rfl⟩,st',fun b hb=>(hf b hb).1⟩⟩
  rw [Int.mul_one]
 done:=by
  intro X hP hw hK hc i pins s σ H E I hf st hg
  subst hP hw hK
  obtain ⟨f0,f1,f2,f3,f4,f5⟩:=hf it (by simp)
  exact wpAny_pyNext_range_end (I.ok.hd hc) st (by have:n≤i:=hg; omega) fun h' eb=>⟨rfl,I.turned (t':=s.toks) (fun b o hb e=>eb b o hb e) f0 f1 f3 f4 f5⟩
 self:=fun _ _ _ _ _ st h=>wpAny_pyIter_rangeiter st h
section
variable {X:Cx}{tg:Expr}
theorem zMO {pins:List (Addr × Obj)}{σ:St}{H:Hp}{s:Shared}{R:It→Hp→Prop}{E:Value→Shared→Prop}{lo hi:Int}{t u v:Tok}{tk:Nat} (I:Inv X pins σ H s) (h1:-(2 ^ 62)≤lo) (h2:lo<2 ^ 62) (h3:-(2 ^ 62)≤hi) (h4:hi<2 ^ 62)
  (q:R (Itr lo (hi - lo).toNat) H):wpAny (model X.prog X.w) X.A (pyIter (.ref s.heap.objs.size)) (PIE X pins σ tg R) E { s with heap:=s.heap.push { cls:=.type "range",data:=.fields #[.int lo t,.int hi u,.int 1 v] },toks:=tk }:=by
 refine wpAny_pyIter_range (IsRange.new ..) (small_one h1 h2 h3 h4) ?_
 have I1:Inv X pins σ H { s with heap:=s.heap.push { cls:=.type "range",data:=.fields #[.int lo t,.int hi u,.int 1 v] },toks:=tk }:=I.kept fun b o e=>qA4 _ e
 refine ⟨(s.heap.push { cls:=.type "range",data:=.fields #[.int lo t,.int hi u,.int 1 v] }).objs.size,[(s.heap.push { cls:=.type "range",data:=.fields #[.int lo t,.int hi u,.int 1 v] }).objs.size],_,_,H,rfl,
  I1.kept (t':=tk) fun b o e=>qA4 _ e,zNz _ lo (hi - lo).toNat,?_,fun b hb=>?_,q⟩
 ·have e1:lo+((0:Nat):Int)*1=lo:=by simp
  have e2:(((hi - lo).toNat:Nat):Int) - ((0:Nat):Int)=Builtin.Range.rangeSize lo hi 1:=by rw [rangeSize_one]; split <;> omega
  show IsRangeIter _ _ (lo+((0:Nat):Int)*1) ((((hi - lo).toNat:Nat):Int) - ((0:Nat):Int)) 1
  rw [e1,e2]
  exact qB4 _ rfl
 ·have e:b=(s.heap.push { cls:=.type "range",data:=.fields #[.int lo t,.int hi u,.int 1 v] }).objs.size:=by simpa using hb
  subst e
  exact I1.fpOk (qB0 _) (I1.hok.fresh (qB0 _))
noncomputable def zXR (ta:TA):TI:=fun σ H R=>ta σ H fun vs H1=>∃ j:Int,vs=[.int j]∧-(2 ^ 62)≤j∧j<2 ^ 62∧R (Itr 0 j.toNat) H1
noncomputable def zXQ (ta:TA):TI:=fun σ H R=>ta σ H fun vs H1=>∃ i j:Int,vs=[.int i,.int j]∧(-(2 ^ 62)≤i∧i<2 ^ 62∧-(2 ^ 62)≤j∧j<2 ^ 62)∧R (Itr i (j - i).toNat) H1
theorem zPw {a:Expr}{ta:TA}{p pos:Pos} (hg:Gl X "range") (hm:X.mg "range"=none) (ha:PA X [a] ta) (hs:starEach [a] X.env=[(false,eval a X.env)]:=by rfl):PI X tg (.Call (.Name "range" p) [a] [] pos) (zXR ta):=by
 intro pins s σ H R I h
 refine Call_ (zFf I hg hm boot_range (PyProof.Rows.callWith_type1 (thn (ha pos pins s σ H _ I h) fun us s1 ⟨vs,H1,I1,r1,q1⟩=>?_) hs rfl))
 obtain ⟨j,e,q1,q2,q⟩:=q1
 subst e
 cases r1 with
 | cons r rr =>
  cases rr
  obtain ⟨t,rfl⟩:=r
  exact call_range_1 (zMO I1 (by omega) (by omega) q1 q2 (by simpa using q))
theorem zPv {a b:Expr}{ta:TA}{p pos:Pos} (hg:Gl X "range") (hm:X.mg "range"=none) (ha:PA X [a,b] ta) (hs:starEach [a,b] X.env=[(false,eval a X.env),(false,eval b X.env)]:=by rfl) (hs2:starEach [b] X.env=[(false,eval b X.env)]:=by rfl) :
  PI X tg (.Call (.Name "range" p) [a,b] [] pos) (zXQ ta):=by
 intro pins s σ H R I h
 refine Call_ (zFf I hg hm boot_range (PyProof.Rows.callWith_type1 (thn (ha pos pins s σ H _ I h) fun us s1 ⟨vs,H1,I1,r1,q1⟩=>?_) (by rw [hs,hs2]) (by rw [hs2]; rfl)))
 obtain ⟨i,j,e,⟨q1,q2,q3,q4⟩,q⟩:=q1
 subst e
 cases r1 with
 | cons r rr =>
  cases rr with
  | cons r' rr =>
   cases rr
   obtain ⟨t,rfl⟩:=r
   obtain ⟨t',rfl⟩:=r'
   exact call_range_2 (zMO I1 q1 q2 q3 q4 q)
noncomputable def tFor (wi:TI) (g:TG) (tb:TS):TS:=fun D σ H=>wi σ H fun J H1=>∃ W:Nat→Nat→St→Hp→Prop,(∃ m,W 0 m σ H1)∧∀ i m σ H,W i m σ H →
 (J.stop i H∧D.nx σ H)∨(J.go i H∧∃ N:St→Hp→Prop,(∀ σ' H',N σ' H'→∃ m',m'<m∧W (i+1) m' σ' H')∧∀ x H',J.yld i H x H'→g x σ H' fun σ2 H2=>tb { D with nx:=N,ct:=N,bk:=D.nx } σ2 H2)
noncomputable def zKj (fp:List Addr) (h:Heap):List (Addr × Obj):=fp.filterMap fun b=>(h.get? b).map fun o=>(b,o)
theorem zDe {fp:List Addr}{h:Heap}{b:Addr}{o:Obj} (hb:b∈fp) (e:h.get? b=some o):(b,o)∈zKj fp h:=qP5.mpr ⟨b,hb,by rw [e]; rfl⟩
theorem zPJ {fp:List Addr}{h:Heap}{p:Addr × Obj} (hp:p∈zKj fp h):p.1∈fp∧h.get? p.1=some p.2:=by
 obtain ⟨b,hb,e⟩:=qP5.mp hp
 cases q:h.get? b with
 | none=>rw [q] at e; cases e
 | some o =>
  rw [q] at e
  have e':(b,o)=p:=Option.some.inj e
  subst e'
  exact ⟨hb,q⟩
theorem Inv.pinned {pins:List (Addr × Obj)}{σ:St}{H:Hp}{s:Shared}{fp:List Addr} (I:Inv X pins σ H s) (hf:∀ b∈fp,FpOk X pins H b) (ho:∀ b∈fp,∃ o,s.heap.get? b=some o∧∀ v,o.data≠.cell v):Inv X (pins++zKj fp s.heap) σ H s :=
 I.pins_of fun p hp=>(qD2.mp hp).elim (fun z=>I.pin p (qD3 _ z)) fun z=>by
  obtain ⟨hb,e⟩:=zPJ z
  obtain ⟨f0,f1,f2,_⟩:=hf p.1 hb
  obtain ⟨o,e',d⟩:=ho p.1 hb
  rw [e] at e'; cases e'
  exact ⟨e,f0,f1,f2,d⟩
theorem Inv.unpinned {pins pl:List (Addr × Obj)}{σ:St}{H:Hp}{s:Shared} (I:Inv X (pins++pl) σ H s):Inv X pins σ H s:=I.pins_of fun p hp=>I.pin p (qD3 _ (qH1 _ hp))
theorem zWK {iter:Expr}{body:List Stmt}{wi:TI}{g:TG}{tb:TS}{pos:Pos} (hp:PassesOwn (model X.prog X.w) X.A X.env X.xe) (hc:X.calm=true) (hi:PI X tg iter wi) (hg:PG X tg g) (hb:PSs X body tb)
  (hs:∀ x,foldedSetIterable iter X.env x=pure x:=by intro _; rfl):PS X (.For tg iter body [] pos) (tFor wi g tb):=by
 intro pins s σ H D I h
 refine wpAny_For (thn (hi pins s σ H _ I h) fun v s1 h1=>thn h1 fun itv s2 h2=>?_) hs
 obtain ⟨it,fp,tn,J,H2,e,I2,T,st2,f2,W,⟨m0,w0⟩,turn⟩:=h2
 subst e
 have stat:∀ {H':Hp},(∀ b∈fp,H' b=none)→∀ b∈fp,FpOk X pins H' b:=fun hn b hb=>⟨hn b hb,(f2 b hb).2⟩
 refine codeAny_forLoop_any (fun n s'=>∃ i σ' H',Inv X pins σ' H' s'∧tn i s'.heap∧(∀ b∈fp,H' b=none)∧W i n σ' H') ?_ m0 ⟨0,σ,H2,I2,st2,fun b hb=>(f2 b hb).1,w0⟩
 rintro n s3 ⟨i,σ3,H3,I3,st3,fr3,w3⟩
 rcases turn i n σ3 H3 w3 with ⟨stop,qn⟩ | ⟨go,N,hN,step⟩
 ·refine wpAny_passesOwn hp (thn (T.done X rfl rfl rfl hc i pins s3 σ3 H3 X.xe I3 (stat fr3) st3 stop) fun r s4 ⟨hr,I4⟩=>?_)
  subst hr
  exact wpAny_execs_nil ⟨σ3,H3,I4,qn⟩
 ·refine wpAny_passesOwn hp (thn (T.item X rfl rfl rfl hc i pins s3 σ3 H3 X.xe I3 (stat fr3) st3 go) fun r s4 ⟨u,hr,h4⟩=>?_)
  subst hr
  refine wpAny_passesOwn hp (thn h4 fun _ s5 ⟨x,H5,I5,r5,y5,st5,fr5⟩=>?_)
  have I5':=I5.pinned (stat fr5) (T.obj _ _ st5)
  refine wpAny_passesOwn hp (thn (hg _ s5 σ3 H5 x u _ I5' r5 (step x H5 y5)) fun _ s6 ⟨σ6,H6,I6,q6⟩=>?_)
  refine wpAny_passesOwn hp (thn (hb _ s6 σ6 H6 _ I6 q6) fun f s7 q7=>?_)
  have again:∀ {σ7:St}{H7:Hp},Inv X (pins++zKj fp s5.heap) σ7 H7 s7→N σ7 H7→∃ m,m<n∧∃ i σ' H',Inv X pins σ' H' s7∧tn i s7.heap∧(∀ b∈fp,H' b=none)∧W i m σ' H':=fun {σ7 H7} I7 n7=>by
   obtain ⟨m',hm,w7⟩:=hN σ7 H7 n7
   refine ⟨m',hm,i+1,σ7,H7,I7.unpinned,T.keep _ _ _ st5 fun b hb o e=>(I7.pin (b,o) (qD3 _ (qD3 _ (zDe hb e)))).1,fun b hb=>?_,w7⟩
   obtain ⟨o,e,d⟩:=T.obj _ _ st5 b hb
   exact (I7.pin (b,o) (qD3 _ (qD3 _ (zDe hb e)))).2.1
  cases f with
  | next=>obtain ⟨σ7,H7,I7,n7⟩:=q7; exact again I7 n7
  | cont=>obtain ⟨σ7,H7,I7,n7⟩:=q7; exact again I7 n7
  | brk=>obtain ⟨σ7,H7,I7,q7⟩:=q7; exact ⟨σ7,H7,I7.unpinned,q7⟩
  | ret v=>obtain ⟨x7,σ7,H7,I7,r7,q7⟩:=q7; exact ⟨x7,σ7,H7,I7.unpinned,r7,q7⟩
end
noncomputable abbrev R2:=V→V→Hp→VK→Prop
def OpR (X:Cx) (f:Value→Value→Sem Value) (r:R2):Prop :=
 ∀ (pins:List (Addr × Obj)) (s:Shared) (σ:St) (H:Hp) (x y:V) (v u:Value) (Q:VK),Inv X pins σ H s→RelV x v→RelV y u→r x y H Q →
  wpAny (model X.prog X.w) X.A (f v u) (EP X pins σ Q) X.xe s
def UnR (X:Cx) (f:Value→Sem Value) (r:V→Hp→VK→Prop):Prop :=
 ∀ (pins:List (Addr × Obj)) (s:Shared) (σ:St) (H:Hp) (x:V) (v:Value) (Q:VK),Inv X pins σ H s→RelV x v→r x H Q →
  wpAny (model X.prog X.w) X.A (f v) (EP X pins σ Q) X.xe s
def zCw (X:Cx) (f:Value) (r:List V→Hp→VK→Prop):Prop :=
 ∀ (pins:List (Addr × Obj)) (s:Shared) (σ:St) (H:Hp) (xs:List V) (us:List Value) (Q:VK),Inv X pins σ H s→Vals xs us→r xs H Q →
  wpAny (model X.prog X.w) X.A (call f us) (EP X pins σ Q) X.xe s
def TruR (X:Cx) (r:V→Hp→(Bool→Hp→Prop)→Prop):Prop :=
 ∀ (pins:List (Addr × Obj)) (s:Shared) (σ:St) (H:Hp) (x:V) (v:Value) (Q:Bool→Hp→Prop),Inv X pins σ H s→RelV x v→r x H Q →
  wpAny (model X.prog X.w) X.A (truthy v) (TP X pins σ Q) X.xe s
noncomputable def tOp (r:R2) (ta tb:TE):TE:=fun σ H Q=>ta σ H fun x H1=>tb σ H1 fun y H2=>r x y H2 Q
noncomputable def tUn (r:V→Hp→VK→Prop) (ta:TE):TE:=fun σ H Q=>ta σ H fun x H1=>r x H1 Q
noncomputable def rI (C:Int→Int→Prop) (g:Int→Int→V):R2:=fun x y H Q=>∃ i j,x=.int i∧y=.int j∧C i j∧Q (g i j) H
noncomputable def rI0 (g:Int→Int→V):R2:=fun x y H Q=>∃ i j,x=.int i∧y=.int j∧Q (g i j) H
noncomputable def rU (g:Int→V):V→Hp→VK→Prop:=fun x H Q=>∃ i,x=.int i∧Q (g i) H
section
variable {X:Cx}{a b c:Expr}{ta tb tc:TE}{pos:Pos}
theorem binT (ha:PE X a ta) (hb:PE X b tb) {pins:List (Addr × Obj)}{s:Shared}{σ:St}{H:Hp}{R:V→V→Hp→Prop} (I:Inv X pins σ H s)
  (h:ta σ H fun x H1=>tb σ H1 fun y H2=>R x y H2) {Q:Value→Shared→Prop}{f:Value→Value→Sem Value}
  (hf:∀ v u s2 x y H2,Inv X pins σ H2 s2→RelV x v→RelV y u→R x y H2→wpAny (model X.prog X.w) X.A (f v u) Q X.xe s2) :
  wpAny (model X.prog X.w) X.A (eval a X.env) (fun v s₁=>wpAny (model X.prog X.w) X.A (eval b X.env) (fun u s₂=>wpAny (model X.prog X.w) X.A (f v u) Q X.xe s₂) X.xe s₁) X.xe s:=by
 refine thn (ha pins s σ H _ I h) fun v s1 ⟨x,H1,I1,r1,q1⟩=>?_
 refine thn (hb pins s1 σ H1 _ I1 q1) fun u s2 ⟨y,H2,I2,r2,q2⟩=>?_
 exact hf v u s2 x y H2 I2 r1 r2 q2
theorem zZW {op:Operator}{r:R2} (ho:OpR X (binaryOp op) r) (ha:PE X a ta) (hb:PE X b tb):PE X (.BinOp a op b pos) (tOp r ta tb):=by
 intro pins s σ H Q I h
 exact wpAny_BinOp (binT ha hb I h fun v u s2 x y H2 I2 rx ry q=>ho pins s2 σ H2 x y v u Q I2 rx ry q)
theorem zZU {op:UnaryOp}{r:V→Hp→VK→Prop} (ho:UnR X (unaryOp op) r) (ha:PE X a ta):PE X (.UnaryOp op a pos) (tUn r ta):=by
 intro pins s σ H Q I h
 exact UnaryOp_ (thn (ha pins s σ H _ I h) fun v s1 ⟨x,H1,I1,r1,q1⟩=>ho pins s1 σ H1 x v Q I1 r1 q1)
theorem opI {f:Value→Value→Sem Value}{C:Int→Int→Prop}{g:Int→Int→Int}
  (rule:∀ (i j:Int) (t u:Tok) (s:Shared) (Q:Value→Shared→Prop) (E:Value→Shared→Prop),C i j→Q (.int (g i j) s.toks) { s with toks:=s.toks+1 }→wpAny (model X.prog X.w) X.A (f (.int i t) (.int j u)) Q E s) :
  OpR X f (rI C fun i j=>.int (g i j)):=by
 intro pins s σ H x y v u Q I rx ry h
 obtain ⟨i,j,rfl,rfl,hc,q⟩:=h
 obtain ⟨t,rfl⟩:=rx
 obtain ⟨t',rfl⟩:=ry
 exact rule i j t t' s _ _ hc ⟨.int (g i j),H,I.tok _,⟨_,rfl⟩,q⟩
theorem opI0 {f:Value→Value→Sem Value}{g:Int→Int→Int}
  (rule:∀ (i j:Int) (t u:Tok) (s:Shared) (Q:Value→Shared→Prop) (E:Value→Shared→Prop),Q (.int (g i j) s.toks) { s with toks:=s.toks+1 }→wpAny (model X.prog X.w) X.A (f (.int i t) (.int j u)) Q E s) :
  OpR X f (rI0 fun i j=>.int (g i j)):=by
 intro pins s σ H x y v u Q I rx ry h
 obtain ⟨i,j,rfl,rfl,q⟩:=h
 obtain ⟨t,rfl⟩:=rx
 obtain ⟨t',rfl⟩:=ry
 exact rule i j t t' s _ _ ⟨.int (g i j),H,I.tok _,⟨_,rfl⟩,q⟩
theorem opB0 {f:Value→Value→Sem Value}{g:Int→Int→Bool}
  (rule:∀ (i j:Int) (t u:Tok) (s:Shared) (Q:Value→Shared→Prop) (E:Value→Shared→Prop),Q (.bool (g i j)) s→wpAny (model X.prog X.w) X.A (f (.int i t) (.int j u)) Q E s) :
  OpR X f (rI0 fun i j=>.bl (g i j)):=by
 intro pins s σ H x y v u Q I rx ry h
 obtain ⟨i,j,rfl,rfl,q⟩:=h
 obtain ⟨t,rfl⟩:=rx
 obtain ⟨t',rfl⟩:=ry
 exact rule i j t t' s _ _ ⟨.bl (g i j),H,I,rfl,q⟩
def CDiv (i j:Int):Prop:=0<j∧j<1073741824
def CPow (i j:Int):Prop:=0≤j∧j≤1000000∧i.natAbs<2 ^ 64
def CMul (i j:Int):Prop:=(-(2 ^ 64)<i∧i<2 ^ 64)∨(-(2 ^ 64)<j∧j<2 ^ 64)
theorem CMul.ok {i j:Int} (h:CMul i j):IntMulOk i j:=by
 rcases h with ⟨h1,h2⟩ | ⟨h1,h2⟩
 ·exact .of_left (intBits_le_64 h1 h2)
 ·exact .of_right (intBits_le_64 h1 h2)
theorem zNx (k:Nat):(0:Int)≤2 ^ k:=by
 rw [two_pow_cast]
 exact Int.natCast_nonneg _
theorem zXt:OpR X (binaryOp .Add) (rI0 fun i j=>.int (i+j)):=opI0 fun _ _ _ _ _ _ _ q=>add_int q
theorem zXf:OpR X (binaryOp .Sub) (rI0 fun i j=>.int (i - j)):=opI0 fun _ _ _ _ _ _ _ q=>sub_int q
theorem zXl:OpR X (binaryOp .Mult) (rI CMul fun i j=>.int (i*j)):=opI fun _ _ _ _ _ _ _ hc q=>mul_int q hc.ok
theorem zUD:OpR X (binaryOp .FloorDiv) (rI CDiv fun i j=>.int (i / j)):=opI fun i j _ _ _ _ _ hc q=>by
 have h1:(0:Int)<j:=hc.1
 have h2:j<1073741824:=hc.2
 exact floordiv_int (by omega) (by rw [qM4 i (by omega)]; exact q) (.inl (PyProof.noPylong_small (by omega)))
theorem zXm:OpR X (binaryOp .Mod) (rI (fun _ j=>0<j) fun i j=>.int (i % j)):=opI fun i j _ _ _ _ _ hc q=>by
 have h1:(0:Int)<j:=hc
 exact mod_int' (by omega) (by rw [Int.fmod_eq_emod_of_nonneg i (by omega)]; exact q)
theorem zXj:OpR X (binaryOp .Pow) (rI CPow fun i j=>.int (i ^ j.toNat)):=opI fun _ _ _ _ _ _ _ hc q=>pow_int_small hc.1 hc.2.1 hc.2.2 q
theorem zXh:OpR X (binaryOp .LShift) (rI CPow fun i j=>.int (i*2 ^ j.toNat)):=opI fun _ _ _ _ _ _ _ hc q=>lshift_int_small hc.1 hc.2.1 hc.2.2 q
theorem zXg:OpR X (binaryOp .RShift) (rI (fun _ j=>0≤j) fun i j=>.int (i / 2 ^ j.toNat)):=opI fun i j _ _ _ _ _ hc q =>
 rshift_int hc (by rw [qM4 i (zNx _)]; exact q)
theorem zXs:OpR X (binaryOp .BitAnd) (rI0 fun i j=>.int (Builtin.bitAnd i j)):=opI0 fun _ _ _ _ _ _ _ q=>and_int q
theorem zac:OpR X (binaryOp .BitOr) (rI0 fun i j=>.int (Builtin.bitOr i j)):=opI0 fun _ _ _ _ _ _ _ q=>or_int q
theorem zXe:OpR X (binaryOp .BitXor) (rI0 fun i j=>.int (Builtin.bitXor i j)):=opI0 fun _ _ _ _ _ _ _ q=>xor_int q
theorem unI {f:Value→Sem Value}{g:Int→Int}
  (rule:∀ (i:Int) (t:Tok) (s:Shared) (Q:Value→Shared→Prop) (E:Value→Shared→Prop),Q (.int (g i) s.toks) { s with toks:=s.toks+1 }→wpAny (model X.prog X.w) X.A (f (.int i t)) Q E s) :
  UnR X f (rU fun i=>.int (g i)):=by
 intro pins s σ H x v Q I rx h
 obtain ⟨i,rfl,q⟩:=h
 obtain ⟨t,rfl⟩:=rx
 exact rule i t s _ _ ⟨.int (g i),H,I.tok _,⟨_,rfl⟩,q⟩
theorem zVS:UnR X (unaryOp .USub) (rU fun i=>.int (-i)):=unI fun _ _ _ _ _ q=>neg_int q
end
noncomputable def scal:V→V→Bool
 | .non,.non=>true | .non,.int _=>true | .int _,.non=>true | .non,.bl _=>true | .bl _,.non=>true | .non,.str _=>true | .str _,.non=>true
 | .int _,.int _=>true | .bl _,.bl _=>true | .str _,.str _=>true | .byt _,.byt _=>true
 | .int _,.str _=>true | .str _,.int _=>true | .bl _,.str _=>true | .str _,.bl _=>true
 | _,_=>false
noncomputable def rEq:R2:=fun x y H Q=>scal x y=true∧Q (.bl (decide (x=y))) H
noncomputable def rNe:R2:=fun x y H Q=>scal x y=true∧Q (.bl (!decide (x=y))) H
theorem zQG {i j:Int}:decide (V.int i=V.int j)=(i == j):=by
 rw [qE7]
 simp
theorem zTk {i j:Bool}:decide (V.bl i=V.bl j)=(i == j):=by
 rw [qE7]
 simp
theorem zQF {i j:Str}:decide (V.str i=V.str j)=(i == j):=by
 rw [qE7]
 simp
theorem zQH {i j:Array UInt8}:decide (V.byt i=V.byt j)=(i.toList == j.toList):=by
 rw [qE7]
 cases i
 cases j
 simp
section
variable {X:Cx}{a b c:Expr}{ta tb tc:TE}{pos:Pos}
theorem zAP {pins:List (Addr × Obj)}{σ:St}{H:Hp}{s:Shared}{Q:VK}{k k':Bool} (I:Inv X pins σ H s) (q:Q (.bl k) H) (e:k=k'):EP X pins σ Q (.bool k') s:=by
 subst e
 exact ⟨.bl k,H,I,rfl,q⟩
theorem zai:OpR X (compareOp .Eq) rEq:=by
 intro pins s σ H x y v u Q I rx ry h
 obtain ⟨hs,q⟩:=h
 cases x with
 | non =>
  cases rx
  cases y with
  | non=>cases ry; exact PySem.EqNone.eq_none_none (zAP I q (by simp))
  | bl j=>cases ry; exact PySem.EqNone.eq_none_bool (zAP I q (by simp))
  | int j=>obtain ⟨t',rfl⟩:=ry; exact PySem.EqNone.eq_none_int (zAP I q (by simp))
  | str j=>obtain ⟨t',rfl⟩:=ry; exact PySem.EqNone.eq_none_str (zAP I q (by simp))
  | _=>exact absurd (show false=true from hs) qA7
 | bl i =>
  cases rx
  cases y with
  | non=>cases ry; exact PySem.EqNone.eq_bool_none (zAP I q (by simp))
  | bl j=>cases ry; exact eq_bool (zAP I q zTk)
  | str j=>obtain ⟨t',rfl⟩:=ry; exact PySem.EqMixed.eq_bool_str (zAP I q (by simp))
  | _=>exact absurd (show false=true from hs) qA7
 | int i =>
  obtain ⟨t,rfl⟩:=rx
  cases y with
  | non=>cases ry; exact PySem.EqNone.eq_int_none (zAP I q (by simp))
  | int j=>obtain ⟨t',rfl⟩:=ry; exact eq_int (zAP I q zQG)
  | str j=>obtain ⟨t',rfl⟩:=ry; exact PySem.EqMixed.eq_int_str (zAP I q (by simp))
  | _=>exact absurd (show false=true from hs) qA7
 | str i =>
  obtain ⟨t,rfl⟩:=rx
  cases y with
  | non=>cases ry; exact PySem.EqNone.eq_str_none (zAP I q (by simp))
  | bl j=>cases ry; exact PySem.EqMixed.eq_str_bool (zAP I q (by simp))
  | int j=>obtain ⟨t',rfl⟩:=ry; exact PySem.EqMixed.eq_str_int (zAP I q (by simp))
  | str j=>obtain ⟨t',rfl⟩:=ry; exact eq_str (zAP I q zQF)
  | _=>exact absurd (show false=true from hs) qA7
 | byt i =>
  obtain ⟨t,rfl⟩:=rx
  cases y with
  | byt j=>obtain ⟨t',rfl⟩:=ry; exact W.eq_bytes (zAP I q zQH)
  | _=>exact absurd (show false=true from hs) qA7
 | _=>cases y <;> exact absurd (show false=true from hs) qA7
theorem zad:OpR X (compareOp .NotEq) rNe:=by
 intro pins s σ H x y v u Q I rx ry h
 obtain ⟨hs,q⟩:=h
 cases x with
 | non =>
  cases rx
  cases y with
  | non=>cases ry; exact PySem.EqNone.ne_none_none (zAP I q (by simp))
  | bl j=>cases ry; exact PySem.EqNone.ne_none_bool (zAP I q (by simp))
  | int j=>obtain ⟨t',rfl⟩:=ry; exact PySem.EqNone.ne_none_int (zAP I q (by simp))
  | str j=>obtain ⟨t',rfl⟩:=ry; exact PySem.EqNone.ne_none_str (zAP I q (by simp))
  | _=>exact absurd (show false=true from hs) qA7
 | bl i =>
  cases rx
  cases y with
  | non=>cases ry; exact PySem.EqNone.ne_bool_none (zAP I q (by simp))
  | bl j=>cases ry; exact ne_bool (zAP I q (congrArg not zTk))
  | str j=>obtain ⟨t',rfl⟩:=ry; exact PySem.EqMixed.ne_bool_str (zAP I q (by simp))
  | _=>exact absurd (show false=true from hs) qA7
 | int i =>
  obtain ⟨t,rfl⟩:=rx
  cases y with
  | non=>cases ry; exact PySem.EqNone.ne_int_none (zAP I q (by simp))
  | int j=>obtain ⟨t',rfl⟩:=ry; exact ne_int (zAP I q (congrArg not zQG))
  | str j=>obtain ⟨t',rfl⟩:=ry; exact PySem.EqMixed.ne_int_str (zAP I q (by simp))
  | _=>exact absurd (show false=true from hs) qA7
 | str i =>
  obtain ⟨t,rfl⟩:=rx
  cases y with
  | non=>cases ry; exact PySem.EqNone.ne_str_none (zAP I q (by simp))
  | bl j=>cases ry; exact PySem.EqMixed.ne_str_bool (zAP I q (by simp))
  | int j=>obtain ⟨t',rfl⟩:=ry; exact PySem.EqMixed.ne_str_int (zAP I q (by simp))
  | str j=>obtain ⟨t',rfl⟩:=ry; exact ne_str (zAP I q (congrArg not zQF))
  | _=>exact absurd (show false=true from hs) qA7
 | byt i =>
  obtain ⟨t,rfl⟩:=rx
  cases y with
  | byt j=>obtain ⟨t',rfl⟩:=ry; exact W.ne_bytes (zAP I q (congrArg not zQH))
  | _=>exact absurd (show false=true from hs) qA7
 | _=>cases y <;> exact absurd (show false=true from hs) qA7
theorem zae:OpR X (compareOp .Lt) (rI0 fun i j=>.bl (decide (i<j))):=opB0 fun _ _ _ _ _ _ _ q=>lt_int q
theorem zaf:OpR X (compareOp .LtE) (rI0 fun i j=>.bl (decide (i≤j))):=opB0 fun _ _ _ _ _ _ _ q=>le_int q
theorem zag:OpR X (compareOp .Gt) (rI0 fun i j=>.bl (decide (j<i))):=opB0 fun _ _ _ _ _ _ _ q=>gt_int q
theorem zah:OpR X (compareOp .GtE) (rI0 fun i j=>.bl (decide (j≤i))):=opB0 fun _ _ _ _ _ _ _ q=>ge_int q
theorem zXn:OpR X (compareOp .Is) (fun x y H Q=>y=.non∧Q (.bl (decide (x=.non))) H):=by
 intro pins s σ H x y v u Q I rx ry h
 obtain ⟨rfl,q⟩:=h
 cases ry
 refine is_none_gen (zAP I q ?_)
 cases x <;> first
  | (cases rx; rfl)
  | (obtain ⟨t,rfl⟩:=rx; rfl)
theorem zUC:OpR X (compareOp .IsNot) (fun x y H Q=>y=.non∧Q (.bl (!decide (x=.non))) H):=by
 intro pins s σ H x y v u Q I rx ry h
 obtain ⟨rfl,q⟩:=h
 cases ry
 refine isnot_none_gen (zAP I q ?_)
 cases x <;> first
  | (cases rx; rfl)
  | (obtain ⟨t,rfl⟩:=rx; rfl)
theorem zUw {op:CmpOp}{r:R2} (ho:OpR X (compareOp op) r) (ha:PE X a ta) (hb:PE X b tb) (hm:behindInMarks op b=false):PE X (.Compare a [op] [b] pos) (tOp r ta tb):=by
 intro pins s σ H Q I h
 exact wpAny_Compare1 (binT ha hb I h fun v u s2 x y H2 I2 rx ry q=>ho pins s2 σ H2 x y v u Q I2 rx ry q) hm
noncomputable def zTD (t:TE):TT:=fun σ H Q=>t σ H fun x H'=>∃ k,x=.bl k∧Q k H'
theorem zUd {op:CmpOp}{r:R2} (ho:OpR X (compareOp op) r) (ha:PE X a ta) (hb:PE X b tb) (hm:behindInMarks op b=false):PT X (.Compare a [op] [b] pos) (zTD (tOp r ta tb)):=by
 intro pins s σ H Q I h
 refine wpAny_isTrue_Compare1 (thn (ha pins s σ H _ I h) fun v s1 ⟨x,H1,I1,r1,q1⟩=>thn (hb pins s1 σ H1 _ I1 q1) fun u s2 ⟨y,H2,I2,r2,q2⟩ =>
  thn (ho pins s2 σ H2 x y v u _ I2 r1 r2 q2) fun c s3 ⟨z,H3,I3,r3,k,e,q3⟩=>?_) hm
 subst e
 cases r3
 exact wpAny_truthy_bool ⟨H3,I3,q3⟩
noncomputable def zP5 (r r':R2) (ta tb tc:TE):TE:=fun σ H Q=>ta σ H fun x H1=>tb σ H1 fun y H2=>r x y H2 fun z H3=>∃ k,z=.bl k ∧
 (if k=true then tc σ H3 fun w' H4=>r' y w' H4 Q else Q (.bl false) H3)
theorem zRZ {op op':CmpOp}{r r':R2} (ho:OpR X (compareOp op) r) (ho':OpR X (compareOp op') r') (ha:PE X a ta) (hb:PE X b tb) (hc:PE X c tc)
  (hm:lastMarks [op,op'] [b,c]=false:=by with_unfolding_all rfl):PE X (.Compare a [op,op'] [b,c] pos) (zP5 r r' ta tb tc):=by
 intro pins s σ H Q I h
 refine Compare_chain (thn (ha pins s σ H _ I h) fun v s1 ⟨x,H1,I1,r1,q1⟩=>chain_link (thn (hb pins s1 σ H1 _ I1 q1) fun u s2 ⟨y,H2,I2,r2,q2⟩ =>
  thn (ho pins s2 σ H2 x y v u _ I2 r1 r2 q2) fun d s3 ⟨z,H3,I3,r3,k,e,q3⟩=>?_)) hm
 subst e
 cases r3
 refine wpAny_truthy_bool ?_
 cases k with
 | false=>exact ite_ff ⟨.bl false,H3,I3,rfl,q3⟩
 | true=>exact ite_tt (chain_last (thn (hc pins s3 σ H3 _ I3 q3) fun w' s4 ⟨z',H4,I4,r4,q4⟩=>ho' pins s4 σ H4 y z' u w' Q I4 r2 r4 q4))
theorem zRO {op op':CmpOp}{r r':R2} (ho:OpR X (compareOp op) r) (ho':OpR X (compareOp op') r') (ha:PE X a ta) (hb:PE X b tb) (hc:PE X c tc)
  (hm:lastMarks [op,op'] [b,c]=false:=by with_unfolding_all rfl):PT X (.Compare a [op,op'] [b,c] pos) (zTD (zP5 r r' ta tb tc)):=by
 intro pins s σ H Q I h
 refine isTrue_chain (thn (ha pins s σ H _ I h) fun v s1 ⟨x,H1,I1,r1,q1⟩=>test_link (thn (hb pins s1 σ H1 _ I1 q1) fun u s2 ⟨y,H2,I2,r2,q2⟩ =>
  thn (ho pins s2 σ H2 x y v u _ I2 r1 r2 q2) fun d s3 ⟨z,H3,I3,r3,k,e,q3⟩=>?_)) hm
 subst e
 cases r3
 refine wpAny_truthy_bool ?_
 cases k with
 | false =>
  obtain ⟨k',e',q'⟩:=q3
  cases e'
  exact ite_ff ⟨H3,I3,q'⟩
 | true =>
  refine ite_tt (test_last (thn (hc pins s3 σ H3 _ I3 q3) fun w' s4 ⟨z',H4,I4,r4,q4⟩=>thn (ho' pins s4 σ H4 y z' u w' _ I4 r2 r4 q4) fun d' s5 ⟨z2,H5,I5,r5,k2,e2,q5⟩=>?_))
  subst e2
  cases r5
  exact wpAny_truthy_bool ⟨H5,I5,q5⟩
def TruV (K:W.Frag) (x:V) (H:Hp) (k:Bool):Prop :=
 match x with
 | .non=>k=false
 | .bl b=>k=b
 | .int i=>k=(i != 0)
 | .str y=>y.length≤sizeLine∧k=((y.length:Int) != 0)
 | .byt y=>y.size≤sizeLine∧k=((y.size:Int) != 0)
 | .ref p=>(∃ xs,SqL K H p xs∧k=!xs.isEmpty)∨(∃ xs,SqT K H p xs∧k=!xs.isEmpty)∨∃ kvs,H p=some (.dK kvs)∧k=!kvs.isEmpty
 | _=>False
theorem zO1 {κ:Type}{kvs:List (κ × V)}{vs:List (κ × Value)} (r:KV kvs vs):(!vs.isEmpty)=!kvs.isEmpty:=by
 cases r <;> rfl
theorem zID {xs:List V}{its:List Value} (r:Vals xs its):(!its.toArray.isEmpty)=!xs.isEmpty:=by
 cases r <;> simp
theorem zIy:(sizeLine:Nat)<2 ^ 63:=by rw [sizeLine_eq]; decide
theorem zVV:TruR X (fun x H Q=>∃ k,TruV X.K x H k∧Q k H):=by
 intro pins s σ H x v Q I rx h
 obtain ⟨k,e,q⟩:=h
 have hl:=zIy
 have hs:sizeLine=16777216:=sizeLine_eq
 cases x with
 | non =>
  cases rx
  have e':k=false:=e
  subst e'
  exact truthy_none ⟨H,I,q⟩
 | bl b =>
  cases rx
  have e':k=b:=e
  subst e'
  exact wpAny_truthy_bool ⟨H,I,q⟩
 | int i =>
  obtain ⟨t,rfl⟩:=rx
  have e':k=(i != 0):=e
  subst e'
  exact PySem.P.truthy_int ⟨H,I,q⟩
 | str y =>
  obtain ⟨t,rfl⟩:=rx
  obtain ⟨hy,e'⟩:y.length≤sizeLine∧k=((y.length:Int) != 0):=e
  subst e'
  exact PySem.P.truthy_str (by omega) ⟨H,I.tok _,q⟩
 | byt y =>
  obtain ⟨t,rfl⟩:=rx
  obtain ⟨hy,e'⟩:y.size≤sizeLine∧k=((y.size:Int) != 0):=e
  subst e'
  exact W.truthy_bytes (by omega) ⟨H,I.tok _,q⟩
 | ref p =>
  cases rx
  have e':(∃ xs,SqL X.K H p xs∧k=!xs.isEmpty)∨(∃ xs,SqT X.K H p xs∧k=!xs.isEmpty)∨∃ kvs,H p=some (.dK kvs)∧k=!kvs.isEmpty:=e
  rcases e' with ⟨xs,hx,e'⟩ | ⟨xs,hx,e'⟩ | ⟨kvs,hx,e'⟩
  ·subst e'
   obtain ⟨its,r,pl,hz⟩:=I.list hx
   have hlen:=r.length
   exact wpAny_truthy_list pl.isList (by simp only [qA8]; omega) ⟨H,I.tok _,by rw [zID r]; exact q⟩
  ·subst e'
   obtain ⟨its,r,pl,hz⟩:=I.tuple hx
   have hlen:=r.length
   exact truthy_tuple pl (by simp only [qA8]; omega) ⟨H,I.tok _,by rw [zID r]; exact q⟩
  ·subst e'
   obtain ⟨hz,hS,vs,r,m⟩:kvs.length≤sizeLine∧(p == sysModules)=false∧∃ vs,KV kvs vs∧s.heap.DictOf (zAS X.prog X.w) p vs:=I.hok p _ hx
   have hlen:kvs.length=vs.length:=Paired.length r
   exact wpAny_truthy_dict hS m (by omega) ⟨H,I.tok _,by rw [zO1 r]; exact q⟩
 | _=>exact (show False from e).elim
theorem zRN (ha:PE X a ta) (he:∀ whole,isTrue a X.env whole=(do let v ← whole; standAt a.pos; holding [v] (truthy v))) :
  PT X a (fun σ H Q=>ta σ H fun x H'=>∃ k,TruV X.K x H' k∧Q k H'):=by
 intro pins s σ H Q I h
 exact isTrue_plain (thn (ha pins s σ H _ I h) fun v s1 ⟨x,H1,I1,r1,q1⟩=>zVV pins s1 σ H1 x v Q I1 r1 q1) (he _)
theorem zNS:OpR X (binaryOp .Add) (fun x y H Q=>∃ i j,x=.str i∧y=.str j∧i.length+j.length≤sizeLine∧Q (.str (i++j)) H):=by
 intro pins s σ H x y v u Q I rx ry h
 obtain ⟨i,j,rfl,rfl,hz,q⟩:=h
 obtain ⟨t,rfl⟩:=rx
 obtain ⟨t',rfl⟩:=ry
 exact add_str (fun t' tk=>⟨.str (i++j),H,I.tok _,⟨_,rfl⟩,q⟩) hz
theorem zF2 {x:V}{us:List Value} (r:Vals [x] us):∃ u,us=[u]∧RelV x u:=by
 cases r with
 | cons r1 r2=>cases r2; exact ⟨_,rfl,r1⟩
theorem zRr {x y:V}{us:List Value} (r:Vals [x,y] us):∃ u w',us=[u,w']∧RelV x u∧RelV y w':=by
 cases r with
 | cons r1 r2 =>
  cases r2 with
  | cons r3 r4=>cases r4; exact ⟨_,_,rfl,r1,r3⟩
theorem zQZ (hc:X.calm=true):zCw X (.builtin "max") (fun xs H Q=>∃ i j,xs=[.int i,.int j]∧Q (.int (if j>i then j else i)) H):=by
 intro pins s σ H xs us Q I r h
 obtain ⟨i,j,rfl,q⟩:=h
 obtain ⟨u,w',rfl,⟨t,rfl⟩,⟨t',rfl⟩⟩:=zRr r
 refine max_two_ints (I.ok.hd hc) fun h' tk k=>⟨_,H,I.kept k,?_,q⟩
 by_cases hj:j>i
 ·rw [if_pos hj,if_pos hj]; exact ⟨_,rfl⟩
 ·rw [if_neg hj,if_neg hj]; exact ⟨_,rfl⟩
theorem zQY (hc:X.calm=true):zCw X (.builtin "min") (fun xs H Q=>∃ i j,xs=[.int i,.int j]∧Q (.int (if j<i then j else i)) H):=by
 intro pins s σ H xs us Q I r h
 obtain ⟨i,j,rfl,q⟩:=h
 obtain ⟨u,w',rfl,⟨t,rfl⟩,⟨t',rfl⟩⟩:=zRr r
 refine min_two_ints (I.ok.hd hc) fun h' tk k=>⟨_,H,I.kept k,?_,q⟩
 by_cases hj:j<i
 ·rw [if_pos hj,if_pos hj]; exact ⟨_,rfl⟩
 ·rw [if_neg hj,if_neg hj]; exact ⟨_,rfl⟩
theorem zL0:zCw X (.type "int") (fun xs H Q=>(∃ i,xs=[.int i]∧Q (.int i) H)∨∃ k,xs=[.bl k]∧Q (.int (if k then 1 else 0)) H):=by
 intro pins s σ H xs us Q I r h
 rcases h with ⟨i,rfl,q⟩ | ⟨k,rfl,q⟩
 ·obtain ⟨u,rfl,t,rfl⟩:=zF2 r
  exact call_int_int ⟨.int i,H,I,⟨_,rfl⟩,q⟩
 ·obtain ⟨u,rfl,r1⟩:=zF2 r
  cases r1
  exact call_int_bool ⟨.int (if k then 1 else 0),H,I.tok _,⟨_,rfl⟩,q⟩
end
theorem RelO.some_of {v:V}{o:Option Value} (r:RelO (some v) o):∃ u,o=some u∧RelV v u:=by
 cases o with
 | none=>exact (show False from r).elim
 | some u=>exact ⟨u,rfl,r⟩
structure Con (K:W.Frag) (C:Addr) (f:Str) (v:V) (u:Value):Prop where
 at_:W.findIn K (.ref C) f=some (some u)
 rel:RelV v u
 get:W.specialIn K u "__get__"=some none
 cp:W.copiedNames.contains f=false
structure Room (k:Nat) (A:Around):Prop where
 hd:A.handled=none
 dp:A.depth+3*k+5<recursionLimit
 un:A.units+16*k+200<cLine
 gd:A.guards=some []
theorem Room.mono {j k:Nat}{A:Around} (r:Room k A) (h:j≤k):Room j A:=⟨r.hd,by have:=r.dp; omega,by have:=r.un; omega,r.gd⟩
theorem Room.deeper {k:Nat}{A:Around} (r:Room (k+1) A) (env:Env):Room k (A.deeper env) :=
 ⟨r.hd,by have:=r.dp; show A.depth+1+3*k+5<_; omega,by have:=r.un; show A.units+3+16*k+200<_; omega,r.gd⟩
theorem Room.depth {k:Nat}{A:Around} (r:Room k A):A.depth<recursionLimit:=by have:=r.dp; omega
theorem Room.units {k:Nat}{A:Around} (r:Room k A):A.units+64<cLine:=by have:=r.un; omega
theorem Room.units0 {k:Nat}{A:Around} (r:Room k A):A.units<cLine:=by have:=r.un; omega
noncomputable def tNil:TA:=fun _ H Q=>Q [] H
noncomputable def zZn (ta:TE) (tr:TA):TA:=fun σ H Q=>ta σ H fun x H1=>tr σ H1 fun xs H2=>Q (x::xs) H2
section
variable {X:Cx}{e:Expr}{es:List Expr}{te:TE}{t:TA}{pos:Pos}
theorem zT5:PA X [] tNil:=fun _ _ _ _ H Q I h=>Calls.spliced_nil ⟨[],H,I,.nil,h⟩
theorem zPA (ha:PE X e te) (hr:PA X es t) (hs:starEach (e::es) X.env=(false,eval e X.env)::starEach es X.env:=by rfl):PA X (e::es) (zZn te t):=by
 intro pos pins s σ H Q I h
 rw [hs]
 show wpAny _ _ (spliced ((false,eval e X.env)::backTo pos (starEach es X.env))) _ _ s
 refine Calls.spliced_cons (thn (ha pins s σ H _ I h) fun u s1 ⟨x,H1,I1,r1,q1⟩=>?_)
 exact thn (hr pos pins s1 σ H1 _ I1 q1) fun us s2 ⟨xs,H2,I2,r2,q2⟩=>⟨x::xs,H2,I2,.cons r1 r2,q2⟩
noncomputable def tTup (t:TA):TE:=fun σ H Q=>t σ H fun xs H1=>xs.length≤sizeLine∧∀ p,H1 p=none→Q (.ref p) (upd H1 p (.tup xs))
noncomputable def tLst (t:TA):TE:=fun σ H Q=>t σ H fun xs H1=>xs.length≤sizeLine∧∀ p,H1 p=none→Q (.ref p) (upd H1 p (.lst xs))
theorem zWS {x1} (h:PA X es t):PE X (.Tuple es x1 pos) (tTup t):=by
 intro pins s σ H Q I hq
 refine wpAny_Tuple_spliced (thn (h pos pins s σ H _ I hq) fun us s1 ⟨xs,H1,I1,r,z,q⟩=>⟨by rw [← r.length]; exact z,?_⟩)
 have hf:H1 s1.heap.objs.size=none:=I1.hok.fresh (qB0 _)
 refine ⟨.ref s1.heap.objs.size,upd H1 s1.heap.objs.size (.tup xs),I1.laid (t':=s1.toks) (fun b u e=>qA4 _ e) (qB0 _) ?_,rfl,q _ hf⟩
 exact ⟨z,us,r,⟨_,qB4 _ rfl,rfl,_,rfl⟩⟩
theorem zWX (h:PA X es t):PE X (.List es pos) (tLst t):=by
 intro pins s σ H Q I hq
 refine wpAny_List_spliced (thn (h pos pins s σ H _ I hq) fun us s1 ⟨xs,H1,I1,r,z,q⟩=>⟨by rw [← r.length]; exact z,?_⟩)
 have hf:H1 s1.heap.objs.size=none:=I1.hok.fresh (qB0 _)
 refine ⟨.ref s1.heap.objs.size,upd H1 s1.heap.objs.size (.lst xs),I1.laid (t':=s1.toks) (fun b u e=>qA4 _ e) (qB0 _) ?_,rfl,q _ hf⟩
 exact ⟨z,us,0,r,qB4 _ rfl⟩
end
noncomputable abbrev Sp:=List V→Hp→VK→XK→Prop
noncomputable abbrev CXT:=List Env→Hp→Shared→XK→Value→Shared→Prop
structure Env0 (P:Program) (w:World) (K:W.Frag) (mg:Str→Option Value) (base:Heap) (A:Around) (outer:List Env) (s:Shared) (H:Hp):Prop where
 frames:A.frames=some outer
 mod:Mod K mg base
 bs:∀ b o,base.get? b=some o→s.heap.get? b=some o∧H b=none
 bsz:base.objs.size≤s.heap.objs.size
 funs:s.heap.FunFrames base outer
 frf:∀ b∈frs outer,H b=none
 hok:HOk P w H s.heap
 bare:AllBare s.gens
def CE (outer:List Env) (P:Program) (w:World) (H:Hp) (s:Shared) (Q:VK) (u:Value) (s':Shared):Prop :=
 ∃ v H',s'.os=s.os∧AllBare s'.gens∧Un (frs outer) [] H H' s.heap s'.heap∧HOk P w H' s'.heap∧RelV v u∧Q v H'
def CR (CX:CXT) (outer:List Env) (P:Program) (w:World) (H:Hp) (s:Shared) (Q:VK) (E:XK) (r:Result) (s':Shared):Prop :=
 match r with
 | .ok (.ret u)=>CE outer P w H s Q u s'
 | .ok _=>False
 | .error e=>CX outer H s E e s'
structure FnOk (P:Program) (w:World) (K:W.Frag) (mg:Str→Option Value) (base:Heap) (CX:CXT) (k:Nat) (f:Addr) (fd:FuncData) (ps:List Str) (sp:Sp):Prop where
 len:∀ vs H Q E,sp vs H Q E→vs.length=ps.length
 run:∀ (A:Around) (outer:List Env) (s:Shared) (H:Hp) (args:Args) (us:List Value) (vs:List V) (Q:VK) (E:XK),Room k A→Env0 P w K mg base A outer s H→BindsTo s fd args (ps.zip us)→Vals vs us→sp vs H Q E →
  codeAny (model P w) A (.call (.ref f) args) (CR CX outer P w H s Q E) s
theorem FnOk.imp {P:Program}{w:World}{K:W.Frag}{mg:Str→Option Value}{base:Heap}{CX:CXT}{k:Nat}{f:Addr}{fd:FuncData}{ps:List Str}{sp sp':Sp} (F:FnOk P w K mg base CX k f fd ps sp)
  (h:∀ vs H Q E,sp' vs H Q E→sp vs H Q E):FnOk P w K mg base CX k f fd ps sp' :=
 ⟨fun vs H Q E q=>F.len vs H Q E (h _ _ _ _ q),fun A outer s H args us vs Q E hr he hb hv hs=>F.run A outer s H args us vs Q E hr he hb hv (h _ _ _ _ hs)⟩
section
variable {X:Cx}{pins:List (Addr × Obj)}{σ:St}{H:Hp}{s s':Shared}
theorem Inv.env0 (I:Inv X pins σ H s):Env0 X.prog X.w X.K X.mg X.base X.A X.stack s H :=
 ⟨I.ok.frames,I.ok.mod,I.bs,qC6 I.ok.bsz I.sz,I.stack,I.stkFree,I.hok,I.bare⟩
theorem Inv.after {Q:VK}{u:Value} (I:Inv X pins σ H s) (h:CE X.stack X.prog X.w H s Q u s'):EP X pins σ Q u s':=by
 obtain ⟨v,H',os,bare,un,hok,r,q⟩:=h
 obtain ⟨hh,g,d,t,os'⟩:=s'
 obtain rfl:os'=s.os:=os
 exact ⟨v,H',I.call (h':=hh) (g':=g) (d':=d) (t':=t) (ch:=[]) un hok bare (fun b z=>absurd z (by simp)),r,q⟩
end
noncomputable def zTG (sp:Sp) (dvs:List V) (E:XK) (t:TA):TE:=fun σ H Q=>t σ H fun vs H1=>sp (vs++dvs) H1 Q E
def zJH (K:W.Frag) (fd:FuncData) (ps:List Str) (ds:List Value):Prop :=
 ∀ (s:Shared) (us:List Value),K.In s.heap→(us++ds).length=ps.length→BindsTo s fd ⟨us,[]⟩ (ps.zip (us++ds))
theorem zJH.all {K:W.Frag}{fd:FuncData}{ps:List Str} (h:∀ us:List Value,us.length=ps.length→bindArgs fd ⟨us,[]⟩=pure (ps.zip us)):zJH K fd ps []:=fun s us _ hl=>by
 rw [qJ9] at hl ⊢
 exact .of_eq (h us hl)
def zRe (CX:CXT) (X:Cx) (E:XK):Prop:=∀ (pins:List (Addr × Obj)) (σ:St) (H:Hp) (s:Shared) (e:Value) (s':Shared),Inv X pins σ H s→CX X.stack H s E e s'→X.xe e s'
section
variable {X:Cx}{CX:CXT}{k:Nat}{f C:Addr}{fd:FuncData}{ps:List Str}{sp:Sp}{dvs:List V}{ds:List Value}{E:XK}{x m:Str}{p pos apos:Pos}{e o:Expr}{es:List Expr}{ta:TE}{t:TA}
theorem zWA {pins:List (Addr × Obj)}{σ:St}{H:Hp}{s:Shared}{Q:VK}{us:List Value}{vs:List V} (F:FnOk X.prog X.w X.K X.mg X.base CX k f fd ps sp) (hr:Room k X.A) (hb:zJH X.K fd ps ds) (hd:Vals dvs ds) (hx:zRe CX X E)
  (I:Inv X pins σ H s) (r:Vals vs us) (h:sp (vs++dvs) H Q E):wpAny (model X.prog X.w) X.A (call (.ref f) us) (EP X pins σ Q) X.xe s:=by
 have r2:Vals (vs++dvs) (us++ds):=r.append hd
 have hl:(us++ds).length=ps.length:=by rw [← r2.length]; exact F.len _ _ _ _ h
 refine wpAny_call (codeAny_mono (F.run X.A X.stack s H ⟨us,[]⟩ (us++ds) (vs++dvs) Q E hr I.env0 (hb s us I.kIn hl) r2 h) fun r s' hq=>?_)
 cases r with
 | error e=>exact hx pins σ H s e s' I hq
 | ok fl =>
  cases fl with
  | ret u=>exact I.after hq
  | next=>exact False.elim hq
  | brk=>exact False.elim hq
  | cont=>exact False.elim hq
theorem zUx (F:FnOk X.prog X.w X.K X.mg X.base CX k f fd ps sp) (hr:Room k X.A) (hg:Gl X x) (hm:X.mg x=some (.ref f)) (hk:W.keepIn X.K (.ref f)=true) (hb:zJH X.K fd ps ds) (hd:Vals dvs ds) (hx:zRe CX X E)
  (ha:PA X (e::es) t) (hdb:(x == ("__debug__":Str))=false:=by decide) (he:starEach (e::es) X.env=(false,eval e X.env)::starEach es X.env:=by rfl) (hpl:(backTo pos (starEach es X.env)).any (·.1)=false:=by rfl) :
  PE X (.Call (.Name x p) (e::es) [] pos) (zTG sp dvs E t):=by
 intro pins s σ H Q I h
 refine wpAny_Call_Name_kw (zUR I hg hm ?_ hdb)
 refine W.callWith_K (h₀:=X.base) I.ok.mod.kin hk (thn (ha pos pins s σ H _ I h) fun us s1 ⟨vs,H1,I1,r,q⟩=>⟨I1.kIn,?_⟩) he hpl
 exact zWA F hr hb hd hx I1 r q
structure Mk (K:W.Frag) (C f:Addr):Prop where
 makes:W.makesIn K C=true
 init:W.findIn K (.ref C) "__init__"=some (some (.ref f))
 fn:W.isFn K (.ref f)=true
 kp:W.keepIn K (.ref C)=true
end
structure zJG (N P:List Str) (sc:Scope):Prop where
 kind:sc.kind=.function
 co:sc.isCoroutine=false
 gen:sc.isGenerator=false
 nd:N.Nodup
 pre:N.take P.length=P
 par:∀ x∈P,sc.names.lookup x=some .local∨sc.names.lookup x=some .cell
 nofree:∀ y∈sc.names,y.2≠.free
theorem zL4 {kindOf:Str→Option NameKind}{x:Str}:∀ {binds:List (Str × Value)}{m:Str→Option Value},(∀ v,(x,v)∉binds)→bindL kindOf binds m x=m x
 | [],_,_=>rfl
 | (n,v)::r,m,h=>by
  unfold bindL
  rw [zL4 fun w hw=>h w (qD6 _ hw)]
  split
  ·have:x≠n:=by rintro rfl; exact h v qF1
   simp [this]
  ·rfl
theorem zL6 {kindOf:Str→Option NameKind}{x:Str}:∀ {binds:List (Str × Value)}{m:Str→Option Value},(∀ v,(x,v)∉binds)→bindC kindOf binds m x=m x
 | [],_,_=>rfl
 | (n,v)::r,m,h=>by
  unfold bindC
  rw [zL6 fun w hw=>h w (qD6 _ hw)]
  split
  ·rfl
  ·have:x≠n:=by rintro rfl; exact h v qF1
   simp [this]
theorem zL5 {kindOf:Str→Option NameKind}{x:Str}{v:Value}:∀ {P:List Str}{vs:List Value}{i:Nat}{m:Str→Option Value},P.Nodup→P[i]?=some x→vs[i]?=some v→kindOf x=some .local →
  bindL kindOf (P.zip vs) m x=some v
 | [],_,_,_,_,h,_,_=>by simp at h
 | _::_,[],_,_,_,_,h,_=>by simp at h
 | p::P,w::vs,0,m,nd,h1,h2,hk=>by
  simp at h1 h2; subst h1; subst h2
  show bindL kindOf ((p,w)::P.zip vs) m p=_
  unfold bindL
  rw [zL4 fun v hv=>(qI5.mp nd).1 (qI6 hv).1,if_pos hk]
  simp
 | p::P,w::vs,i+1,m,nd,h1,h2,hk=>by
  show bindL kindOf ((p,w)::P.zip vs) m x=_
  unfold bindL
  exact zL5 (i:=i) (qI5.mp nd).2 (by simpa using h1) (by simpa using h2) hk
theorem zL7 {kindOf:Str→Option NameKind}{x:Str}{v:Value}:∀ {P:List Str}{vs:List Value}{i:Nat}{m:Str→Option Value},P.Nodup→P[i]?=some x→vs[i]?=some v→kindOf x≠some .local →
  bindC kindOf (P.zip vs) m x=some v
 | [],_,_,_,_,h,_,_=>by simp at h
 | _::_,[],_,_,_,_,h,_=>by simp at h
 | p::P,w::vs,0,m,nd,h1,h2,hk=>by
  simp at h1 h2; subst h1; subst h2
  show bindC kindOf ((p,w)::P.zip vs) m p=_
  unfold bindC
  rw [zL6 fun v hv=>(qI5.mp nd).1 (qI6 hv).1,if_neg hk]
  simp
 | p::P,w::vs,i+1,m,nd,h1,h2,hk=>by
  show bindC kindOf ((p,w)::P.zip vs) m x=_
  unfold bindC
  exact zL7 (i:=i) (qI5.mp nd).2 (by simpa using h1) (by simpa using h2) hk
noncomputable def start (N:List Str) (vs:List V):St:=vs.map some++qC2 (N.length - vs.length) none
noncomputable def cxOf (CX:CXT) (P:Program) (w:World) (K:W.Frag) (mg:Str→Option Value) (base:Heap) (N:List Str) (qual:Str) (scope:Scope) (f:Addr) (cd:Value) (A:Around) (outer:List Env) (s:Shared) (H:Hp) (E:XK):Cx where
 prog:=P
 w:=w
 K:=K
 mg:=mg
 base:=base
 A:=A.deeper (envOfC qual scope s.heap.objs.size f cd)
 N:=N
 s₀:=s
 H₀:=H
 env:=envOfC qual scope s.heap.objs.size f cd
 outer:=outer
 stack:=envOfC qual scope s.heap.objs.size f cd::outer
 ex:=[]
 calm:=true
 fn:=fun _=>true
 pn:=[]
 xe:=fun e s'=>wpAny (model P w) (A.deeper (envOfC qual scope s.heap.objs.size f cd)) (leaving (envOfC qual scope s.heap.objs.size f cd) e) (fun _ s''=>CX outer H s E e s'') (fun e' s''=>CX outer H s E e' s'') s'
theorem zNr {sc:Scope}{n:Nat}{x:Str} (h:sc.names.lookup x=some .cell):∃ c,(cellsFrom n sc.names []).lookup x=some c:=by
 have q:=W.cellsFrom_some sc.names n [] (.inl h)
 exact qJ7.mp q
theorem zQe {CX:CXT}{P:Program}{w:World}{K:W.Frag}{mg:Str→Option Value}{base:Heap}{N ps:List Str}{qual:Str}{scope:Scope}{f:Addr}{cd:Value}{A:Around}{outer:List Env}{s s1:Shared}{H:Hp}{E:XK}{us:List Value}{vs:List V}
  (S:zJG N ps scope) (hd:A.handled=none) (e0:Env0 P w K mg base A outer s H) (hl:vs.length=ps.length) (r:Vals vs us)
  (x:InCallC s s.heap.objs.size (bindL (envOfC qual scope s.heap.objs.size f cd).kindOf (ps.zip us) fun _=>none) (cellsFrom (s.heap.objs.size+1) scope.names []) (bindC (envOfC qual scope s.heap.objs.size f cd).kindOf (ps.zip us) fun _=>none) s1) :
  Inv (cxOf CX P w K mg base N qual scope f cd A outer s H E) [] (start N vs) H s1:=by
 have hpl:ps.length≤N.length:=by have:=congrArg qO6 S.pre; rw [qI0] at this; omega
 obtain ⟨h1,tk,rfl,hk⟩:=x.done
 have noA:∀ b:Addr,b∉(cxOf CX P w K mg base N qual scope f cd A outer s H E).ex:=fun b z=>absurd (show b∈([]:List Addr) from z) (by simp)
 refine ⟨⟨e0.mod,S.kind,rfl,rfl,qB0 _,fun y z c h1 h2=>?_,fun y hy=>?_,fun y c _ h=>?_,fun _=>hd,Around.frames_deeper e0.frames,.inr ⟨rfl,rfl⟩,fun b z=>absurd z (noA b),e0.bs,e0.bsz,fun b _ _=>noA b,fun b z=>absurd z (noA b),e0.funs,e0.frf⟩,
  rfl,e0.bare,Un.kept hk,⟨_,x.toInCall.ns,fun i y v h1 h2 h3=>?_⟩,fun y c h=>⟨_,x.cell y c h⟩,e0.hok.fresh (qB0 _),fun y c h=>?_,fun p hp=>absurd (show p∈([]:List (Addr × Obj)) from hp) (by simp),e0.hok.kept hk,?_⟩
 ·exact name_of_addr x.apart (PySem.mem_of_lookup h1) (PySem.mem_of_lookup h2)
 ·have hy:scope.names.lookup y=some .cell∨scope.names.lookup y=some .free:=hy
  rcases hy with hy | hy
  ·exact zNr hy
  ·exact absurd rfl (S.nofree _ (PySem.mem_of_lookup hy))
 ·exact qH0 (x.above y c (PySem.mem_of_lookup h))
 ·have hi:i<vs.length:=by
   unfold start at h2
   by_cases hi:i<vs.length
   ·exact hi
   ·rw [qB6 (by simpa using hi)] at h2
    rw [qF9] at h2
    split at h2 <;> cases h2
  have ha:vs[i]?=some v:=by
   unfold start at h2
   rw [qC1 (by simpa using hi),qA6] at h2
   cases e:vs[i]? with
   | none=>rw [e] at h2; cases h2
   | some a=>rw [e] at h2; cases h2; rfl
  obtain ⟨u,hu,rv⟩:=r.get ha
  have hp:ps[i]?=some y:=by
   rw [← S.pre,List.getElem?_take_of_lt (by omega)]; exact h1
  have ndP:ps.Nodup:=by rw [← S.pre]; exact S.nd.sublist (List.take_sublist _ _)
  refine ⟨u,rv,?_⟩
  rcases S.par y (qB9 hp) with k | k
  ·exact .inl ⟨k,zL5 ndP hp hu k⟩
  ·obtain ⟨c,e⟩:=zNr (n:=s.heap.objs.size+1) k
   refine .inr ⟨.inl k,c,e,?_⟩
   have q:=x.cell y c e
   rw [zL7 ndP hp hu (by show scope.names.lookup y≠_; rw [k]; decide)] at q
   exact q
 ·exact e0.hok.fresh (qH0 (x.above y c (PySem.mem_of_lookup h)))
 ·unfold start
  show _=N.length
  rw [qC4,qA2,qG6]
  omega
theorem zaF {CX:CXT}{P:Program}{w:World}{K:W.Frag}{mg:Str→Option Value}{base:Heap}{k:Nat}{f:Addr}{name qual:Str}{params:Arguments}{body:List Stmt}{scope:Scope}{dV kV doc pm cdv ct oc:Value}{an od:Option Addr}
  {osl:Array (Option Value)}{N ps:List Str}{sp:Sp} (lk:K.lookup f=some ⟨oc,od,.func (W.fnOf name qual params body scope dV kV doc pm an cdv ct),osl⟩) (hcd:W.codeIn K cdv qual=true) (S:zJG N ps scope)
  (len:∀ vs H Q E,sp vs H Q E→vs.length=ps.length)
  (hbody:∀ (A:Around) (outer:List Env) (s:Shared) (H:Hp) (vs:List V) (Q:VK) (E:XK),Room k (A.deeper (envOfC qual scope s.heap.objs.size f cdv))→sp vs H Q E →
   ∃ t,PSs (cxOf CX P w K mg base N qual scope f cdv A outer s H E) body t∧t { nx:=fun _ H'=>Q .non H',rt:=Q } (start N vs) H) :
  FnOk P w K mg base CX (k+1) f (W.fnOf name qual params body scope dV kV doc pm an cdv ct) ps sp:=by
 refine ⟨len,fun A outer s H args us vs Q E hr e0 hb r hsp=>?_⟩
 have hl:=len _ _ _ _ hsp
 have KX:K.In s.heap:=e0.mod.kin.keeps fun b o e=>(e0.bs b o e).1
 have lim:s.heap.NoLimit:=e0.mod.nolimit.keeps fun b o e=>(e0.bs b o e).1
 have hkind:∀ y∈ps.zip us,scope.names.lookup y.1=some .local∨(scope.names.lookup y.1=some .cell∧((cellsFrom (s.heap.objs.size+1) scope.names []).lookup y.1).isSome=true):=fun ⟨n,v⟩ hy=>by
  rcases S.par n (qI6 hy).1 with q | q
  ·exact .inl q
  ·exact .inr ⟨q,W.cellsFrom_some _ _ _ (.inl q)⟩
 refine codeAny_call_function hr.depth (KX _ _ lk) rfl S.co S.gen rfl (W.codeRec_of KX hcd) (hb _ _ _ _ ?_)
 refine wpAny_newFunctionEnv_cells S.kind hkind fun env he s1 x=>?_
 subst he
 refine ⟨lim.keeps x.toInCall.keep,codeAny_func ?_⟩
 obtain ⟨t,ht,hq⟩:=hbody A outer s H vs Q E (hr.deeper _) hsp
 have I:Inv (cxOf CX P w K mg base N qual scope f cdv A outer s H E) [] (start N vs) H s1:=zQe S hr.hd e0 hl r x
 refine wpAny_mono (ht [] s1 (start N vs) H _ I hq) (fun fl s' hs=>?_) fun e s' hs=>hs
 have fin:∀ {σ':St}{H':Hp}{v:V}{u:Value},Inv (cxOf CX P w K mg base N qual scope f cdv A outer s H E) [] σ' H' s'→RelV v u→Q v H'→CE outer P w H s Q u s' :=
  fun {σ' H' v u} J rv q=>⟨v,H',J.os,J.bare,J.base,J.hok,rv,q⟩
 cases fl with
 | ret u =>
  obtain ⟨v,σ',H',J,rv,q⟩:=hs
  exact fin J rv q
 | next =>
  obtain ⟨σ',H',J,q⟩:=hs
  exact fin (v:=V.non) (u:=Value.none) J rfl q
 | brk =>
  obtain ⟨_,_,_,q⟩:=hs
  exact False.elim q
 | cont =>
  obtain ⟨_,_,_,q⟩:=hs
  exact False.elim q
section
variable {X:Cx}{x:Str}{p pos:Pos}{e:Expr}{es:List Expr}{t:TA}{id T:String}{r:List V→Hp→VK→Prop}
noncomputable def tCB (r:List V→Hp→VK→Prop) (t:TA):TE:=fun σ H Q=>t σ H fun vs H1=>r vs H1 Q
theorem zS1 (hc:zCw X (.builtin id) r) (hg:Gl X x) (hm:X.mg x=none) (hv:bootBuiltins x=some (.builtin id)) (ha:PA X (e::es) t) (hn:x ≠ "__name__":=by decide) (hdb:(x == ("__debug__":Str))=false:=by decide)
  (he:starEach (e::es) X.env=(false,eval e X.env)::starEach es X.env:=by rfl) (hpl:(backTo pos (starEach es X.env)).any (·.1)=false:=by rfl):PE X (.Call (.Name x p) (e::es) [] pos) (tCB r t):=by
 intro pins s σ H Q I h
 refine wpAny_Call_Name_kw (zFf I hg hm hv ?_ hn hdb)
 exact PyProof.Rows.callWith_builtin1 (thn (ha pos pins s σ H _ I h) fun us s1 ⟨vs,H1,I1,r1,q1⟩=>hc pins s1 σ H1 vs us Q I1 r1 q1) he hpl
theorem zH4 (hc:zCw X (.type T) r) (hg:Gl X x) (hm:X.mg x=none) (hv:bootBuiltins x=some (.type T)) (ha:PA X (e::es) t) (hn:x ≠ "__name__":=by decide) (hdb:(x == ("__debug__":Str))=false:=by decide)
  (he:starEach (e::es) X.env=(false,eval e X.env)::starEach es X.env:=by rfl) (hpl:(backTo pos (starEach es X.env)).any (·.1)=false:=by rfl):PE X (.Call (.Name x p) (e::es) [] pos) (tCB r t):=by
 intro pins s σ H Q I h
 refine wpAny_Call_Name_kw (zFf I hg hm hv ?_ hn hdb)
 exact PyProof.Rows.callWith_type1 (thn (ha pos pins s σ H _ I h) fun us s1 ⟨vs,H1,I1,r1,q1⟩=>hc pins s1 σ H1 vs us Q I1 r1 q1) he hpl
end
end L2
namespace HT
open PySem PyProof.Rows
section
variable {prog:Program}{w:World}{A:Around}{E:Value→Shared→Prop}{s:Shared}
theorem cat_tup {t b:Addr}{vs ws:List Value}{Q:Value→Shared→Prop} (ht:IsTup s.heap t vs.toArray) (hb:IsTup s.heap b ws.toArray) (hv:vs≠[])
  (h1:ws=[]→Q (.ref t) s) (h2:ws≠[]→Q (.ref s.heap.objs.size) { s with heap:=s.heap.push { cls:=.type "tuple",data:=.seq (vs++ws).toArray } })
  (hsz:vs.length+ws.length≤sizeLine):wpAny (model prog w) A (binaryOp .Add (.ref t) (.ref b)) Q E s:=by
 obtain ⟨⟨cls,dd,data,sl⟩,ho,hc,n,hd⟩:=id ht
 obtain ⟨⟨cls2,dd2,data2,sl2⟩,ho2,hc2,n2,hd2⟩:=id hb
 simp only at hc hd hc2 hd2
 subst hc hd hc2 hd2
 have e:vs.toArray++ws.toArray=(vs++ws).toArray:=by simp
 by_cases hw:ws=[]
 ·exact concat_meets ⟨_,ho,rfl⟩ ⟨_,ho2,rfl⟩ noFill_tuple_add seq_tuple_add PySem.F.slot_tuple_add PySem.F.entry_tuple_add (PySem.F.args_tuple_add_2 _ _)
   (tuple_addW1 t b vs.toArray ws.toArray n n2 dd dd2 sl sl2 (by simpa using hv) (by simp [hw])) ⟨ho,ho2,h1 hw⟩
 ·refine concat_meets ⟨_,ho,rfl⟩ ⟨_,ho2,rfl⟩ noFill_tuple_add seq_tuple_add PySem.F.slot_tuple_add PySem.F.entry_tuple_add (PySem.F.args_tuple_add_2 _ _)
   (tuple_addW2 t b vs.toArray ws.toArray n n2 dd dd2 sl sl2 (by simpa using hv) (by simpa using hw) (by rw [qA8,qA8]; exact hsz)) ⟨ho,ho2,?_⟩
  rw [e]
  exact h2 hw
noncomputable def sIx (n d:Nat):Option Int→Nat
 | none=>d
 | some v=>if v<0 then (v+(n:Int)).toNat else min v.toNat n
theorem sIx_none (n d:Nat):sIx n d none=d:=rfl
theorem sIx_nat (n d k:Nat):sIx n d (some (k:Int))=min k n:=by
 show (if (k:Int)<0 then ((k:Int)+(n:Int)).toNat else min (k:Int).toNat n)=min k n
 rw [if_neg (by omega),qE8]
theorem zWz (n d:Nat) (hd:d≤n) (o:Option Int):sIx n d o≤n:=by
 cases o with
 | none=>exact hd
 | some v =>
  show (if v<0 then (v+(n:Int)).toNat else min v.toNat n)≤n
  by_cases hv:v<0
  ·rw [if_pos hv]; omega
  ·rw [if_neg hv]; exact Nat.min_le_right _ _
theorem zQT (v:Int) (n d:Nat):(if v<0 then max (v+(n:Int)) 0 else min v (n:Int))=((sIx n d (some v):Nat):Int):=by
 show (if v<0 then max (v+(n:Int)) 0 else min v (n:Int))=(((if v<0 then (v+(n:Int)).toNat else min v.toNat n):Nat):Int)
 by_cases hv:v<0
 ·simp only [if_pos hv]; omega
 ·simp only [if_neg hv]; omega
theorem zOA (lo hi:Option Int) (n:Nat):Builtin.Slice.sliceAdjust lo hi 1 (n:Int)=(((sIx n 0 lo:Nat):Int),((sIx n n hi:Nat):Int)):=by
 have h1:¬ ((1:Int)<0):=by omega
 unfold Builtin.Slice.sliceAdjust
 simp only [h1,if_false]
 refine Prod.ext ?_ ?_
 ·cases lo with
  | none=>rfl
  | some v=>exact zQT v n 0
 ·cases hi with
  | none=>rfl
  | some v=>exact zQT v n n
theorem zNP (i j:Nat):Builtin.Slice.slicePlaces (i:Int) (j:Int) 1=j - i:=by
 unfold Builtin.Slice.slicePlaces
 have h1:(1:Int)>0:=by omega
 simp only [h1,if_true,Int.ediv_one]
 split <;> omega
theorem zIq {v:Value}{o:Option Int}{Q:Option Int→Shared→Prop} (p:IsPart v o) (h:Q o s):wpAny (model prog w) A (Builtin.Slice.slicePartIndex v) Q E s:=by
 cases p with
 | none=>exact slicePart_none h
 | int i t=>exact slicePart_int h
theorem sliceApplied_gen {sl:Addr}{vl vu:Value}{lo hi:Option Int}{n:Nat}{Q:Int × Int × Nat→Shared→Prop} (hs:s.heap.IsSliceOf sl vl vu .none) (pl:IsPart vl lo) (pu:IsPart vu hi)
  (h:Q (((sIx n 0 lo:Nat):Int),1,sIx n n hi - sIx n 0 lo) s):wpAny (model prog w) A (Builtin.Slice.sliceApplied (.ref sl) (pure (n:Int))) Q E s:=by
 obtain ⟨os,hos,hcs,hds⟩:=id hs
 unfold Builtin.Slice.sliceApplied Builtin.Slice.sliceFields
 refine wpAny_bind (wpAny_bind (wpAny_field hos hds (x:=vl) rfl (wpAny_bind (wpAny_field hos hds (x:=vu) rfl (wpAny_bind (wpAny_field hos hds (x:=.none) rfl (wpAny_pure ?_)))))))
 refine wpAny_bind (slicePart_none ?_)
 show wpAny _ _ (if ((1:Int) == 0)=true then _ else _) _ _ s
 rw [if_neg (by decide)]
 refine wpAny_bind (zIq pl (wpAny_bind (zIq pu (wpAny_bind (wpAny_pure ?_)))))
 show wpAny _ _ (match Builtin.Slice.sliceAdjust lo hi 1 (n:Int) with | (lo,hi)=>pure (lo,(1:Int),Builtin.Slice.slicePlaces lo hi 1)) _ _ s
 rw [zOA lo hi n]
 show wpAny _ _ (pure (((sIx n 0 lo:Nat):Int),(1:Int),Builtin.Slice.slicePlaces ((sIx n 0 lo:Nat):Int) ((sIx n n hi:Nat):Int) 1)) _ _ s
 rw [zNP]
 exact wpAny_pure h
theorem zRU (xs:Array Value) (i k:Nat):((List.range k).filterMap fun (m:Nat)=>xs[((i:Int)+(m:Int)*1).toNat]?).toArray=((xs.toList.drop i).take k).toArray:=by
 have e:(fun (m:Nat)=>xs[((i:Int)+(m:Int)*1).toNat]?)=fun m=>xs[i+m]?:=by
  funext m
  have:((i:Int)+(m:Int)*1).toNat=i+m:=by omega
  rw [this]
 rw [e]
 have:=pick_run xs i k
 rw [List.filterMap_map] at this
 have e2:((fun x=>xs[x]?)∘fun x=>i+x)=fun m=>xs[i+m]?:=rfl
 rw [e2] at this
 rw [this]
theorem getItem_tuple_cut {t sl:Addr}{items:Array Value}{vl vu:Value}{lo hi:Option Int}{Q:Value→Shared→Prop} (ht:IsTup s.heap t items) (hs:s.heap.IsSliceOf sl vl vu .none) (pl:IsPart vl lo) (pu:IsPart vu hi)
  (hw:¬ (sIx items.size 0 lo=0∧sIx items.size items.size hi=items.size))
  (h:Q (.ref s.heap.objs.size) { s with heap:=s.heap.push { cls:=.type "tuple",data:=.seq ((items.toList.drop (sIx items.size 0 lo)).take (sIx items.size items.size hi - sIx items.size 0 lo)).toArray } })
  (hsz:items.size≤sizeLine):wpAny (model prog w) A (getItem (.ref t) (.ref sl)) Q E s:=by
 have htake:sizeOk (.seq ((items.toList.drop (sIx items.size 0 lo)).take (sIx items.size items.size hi - sIx items.size 0 lo)).toArray):=by
  show ((items.toList.drop (sIx items.size 0 lo)).take (sIx items.size items.size hi - sIx items.size 0 lo)).toArray.size≤sizeLine
  rw [qA8,qI0,qG4,Array.length_toList]
  omega
 have hj:sIx items.size items.size hi≤items.size:=zWz _ _ (qB0 _) hi
 obtain ⟨os,hos,hcs,hds⟩:=id hs
 have hTs:s.TypeIs (.ref sl) "slice":=⟨os,hos,hcs⟩
 unfold getItem
 try with_reducible refine wpAny_holding ?_
 first | refine wpAny_bind (wpAny_pure ?_) | skip
 refine wpAny_bind (wpAny_sequenceKey ht.typeIs (by decide) ?_)
 refine wpAny_bind (wpAny_callSpecial?_slot (name:=Str.ofString "__getitem__") ht.typeIs PyProof.Rows.slot_tuple_getitem
  (wpAny_call_entry PyProof.Rows.slot_tuple_getitem ht.typeIs entry_tuple_getitem ?_ (args_tuple_getitem _ _)))
 show wpAny _ _ (Builtin.Tuple.tupleItemsOf (.ref t) >>= _) _ _ s
 refine wpAny_bind (tupleItemsOf_ ht ?_)
 refine wpAny_bind (wpAny_typeOf hTs ?_)
 rw [if_pos (by decide)]
 refine wpAny_bind (sliceApplied_gen hs pl pu ?_)
 have hno:¬ ((((sIx items.size 0 lo:Nat):Int) == 0&&(1:Int) == 1&&(sIx items.size items.size hi - sIx items.size 0 lo) == items.size)=true):=by
  intro q
  rw [qC7,qC7] at q
  have q1:((sIx items.size 0 lo:Nat):Int)=0:=eq_of_beq q.1.1
  have q2:sIx items.size items.size hi - sIx items.size 0 lo=items.size:=eq_of_beq q.2
  exact hw ⟨by omega,by omega⟩
 show wpAny _ _ (if (((sIx items.size 0 lo:Nat):Int) == 0&&(1:Int) == 1&&(sIx items.size items.size hi - sIx items.size 0 lo) == items.size)=true then _ else _) _ _ s
 rw [if_neg hno,zRU]
 first
  | exact wpAny_bind (m:=Builtin.Tuple.tupleExact _) (wpAny_newObj_type (wpAny_pure ⟨_,rfl,wpAny_pure h⟩) htake)
  | exact wpAny_bind (m:=Builtin.Tuple.tupleExact _) (wpAny_newObj_type (wpAny_bind (wpAny_pure (wpAny_pure ⟨_,rfl,wpAny_pure h⟩))) htake)
  | exact wpAny_bind (wpAny_bind (m:=Builtin.Tuple.tupleExact _) (wpAny_newObj_type (wpAny_pure (wpAny_pure ⟨_,rfl,wpAny_pure h⟩)) htake))
  | exact wpAny_bind (wpAny_bind (m:=Builtin.Tuple.tupleExact _) (wpAny_newObj_type (wpAny_pure ⟨_,rfl,wpAny_pure h⟩) htake))
end
end HT
namespace L2
open PySem PySem.Spec PyProof.Rows
noncomputable abbrev TO:=St→Hp→(Option Int→Hp→Prop)→Prop
def PO (X:Cx) (e:Option Expr) (t:TO):Prop :=
 ∀ (pins:List (Addr × Obj)) (s:Shared) (σ:St) (H:Hp) (Q:Option Int→Hp→Prop),Inv X pins σ H s→t σ H Q →
  wpAny (model X.prog X.w) X.A (evalPart e X.env) (fun u s'=>∃ o H',Inv X pins σ H' s'∧IsPart u o∧Q o H') X.xe s
noncomputable def zTE:TO:=fun _ H Q=>Q none H
noncomputable def zZi (t:TE):TO:=fun σ H Q=>t σ H fun x H1=>∃ i,x=.int i∧Q (some i) H1
theorem zO2 {ns:List Int}:∀ {us:List Value},Vals (ns.map V.int) us→IntsAre us ns:=by
 induction ns with
 | nil=>intro us r; rw [qJ4] at r; cases r; exact .nil
 | cons n ns ih =>
  intro us r
  rw [qC5] at r
  cases r with
  | cons r1 r2 =>
   obtain ⟨t,e⟩:=r1
   subst e
   exact .cons n t (ih r2)
section
variable {X:Cx}{e:Expr}{te:TE}{lo hi:Option Expr}{tl th:TO}{pos p2:Pos}
theorem zUq:PO X none zTE:=by
 intro pins s σ H Q I h
 rw [evalPart_none]
 exact wpAny_pure ⟨none,H,I,.none,h⟩
theorem zUp (h:PE X e te):PO X (some e) (zZi te):=by
 intro pins s σ H Q I hw
 rw [evalPart_some]
 refine thn (h pins s σ H _ I hw) fun u s1 ⟨x,H1,I1,r1,q1⟩=>?_
 obtain ⟨i,rfl,q⟩:=q1
 obtain ⟨t,rfl⟩:=r1
 exact ⟨some i,H1,I1,.int i t,q⟩
def SlR (X:Cx) (r:V→Option Int→Option Int→Hp→VK→Prop):Prop :=
 ∀ (pins:List (Addr × Obj)) (s:Shared) (σ:St) (H:Hp) (x:V) (v vl vu:Value) (lo hi:Option Int) (sl:Addr) (Q:VK),Inv X pins σ H s→RelV x v→s.heap.IsSliceOf sl vl vu .none→IsPart vl lo→IsPart vu hi→r x lo hi H Q →
  ∃ T id,typeLookup (.type T) "__getitem__"=pure (some (.builtin id))∧s.TypeIs v T∧wpAny (model X.prog X.w) X.A (getItem v (.ref sl)) (EP X pins σ Q) X.xe s
noncomputable def tSl (r:V→Option Int→Option Int→Hp→VK→Prop) (te:TE) (tl th:TO):TE:=fun σ H Q=>te σ H fun x H1=>tl σ H1 fun l H2=>th σ H2 fun u H3=>r x l u H3 Q
theorem zRW {r:V→Option Int→Option Int→Hp→VK→Prop} (hr:SlR X r) (he:PE X e te) (hl:PO X lo tl) (hu:PO X hi th):PE X (.Subscript e (.Slice lo hi none p2) pos) (tSl r te tl th):=by
 intro pins s σ H Q I h
 refine Subscript_ (thn (he pins s σ H _ I h) fun v s1 ⟨x,H1,I1,r1,q1⟩=>?_)
 refine wpAny_Slice (thn (hl pins s1 σ H1 _ I1 q1) fun vl s2 ⟨l,H2,I2,pl,q2⟩=>thn (hu pins s2 σ H2 _ I2 q2) fun vu s3 ⟨u,H3,I3,pu,q3⟩=>?_)
 rw [evalPart_none]
 refine wpAny_pure ?_
 have I4:Inv X pins σ H3 { s3 with heap:=s3.heap.push { cls:=.type "slice",data:=.fields #[vl,vu,.none] } }:=I3.kept (t':=s3.toks) fun b ob q=>qA4 _ q
 obtain ⟨T,id,hT,ht,hg⟩:=hr pins { s3 with heap:=s3.heap.push { cls:=.type "slice",data:=.fields #[vl,vu,.none] } } σ H3 x v vl vu l u s3.heap.objs.size Q I4 r1 (Heap.IsSliceOf.new ..) pl pu q3
 show wpAny (model X.prog X.w) X.A (subscriptTail e (.Slice lo hi none p2) v (.ref s3.heap.objs.size)) (EP X pins σ Q) X.xe { s3 with heap:=s3.heap.push { cls:=.type "slice",data:=.fields #[vl,vu,.none] } }
 exact tail_any (ops:=[.ref s3.heap.objs.size,v]) ht hT hg (by with_unfolding_all rfl)
noncomputable def cutV (xs:List V) (lo hi:Option Int):List V:=(xs.drop (HT.sIx xs.length 0 lo)).take (HT.sIx xs.length xs.length hi - HT.sIx xs.length 0 lo)
theorem zHx (xs:List V) (lo hi:Option Int):(cutV xs lo hi).length≤xs.length:=by
 unfold cutV
 rw [qI0,qG4]
 omega
noncomputable def rSlT (K:W.Frag):V→Option Int→Option Int→Hp→VK→Prop:=fun x lo hi H Q=>∃ a xs,x=.ref a∧SqT K H a xs ∧
 ¬ (HT.sIx xs.length 0 lo=0∧HT.sIx xs.length xs.length hi=xs.length)∧∀ p,H p=none→Q (.ref p) (upd H p (.tup (cutV xs lo hi)))
theorem zWi:SlR X (rSlT X.K):=by
 intro pins s σ H x v vl vu lo hi sl Q I rx hs pl pu h
 obtain ⟨a,xs,rfl,hx,hw,q⟩:=h
 cases rx
 obtain ⟨its,r,ht,hz⟩:=I.tuple hx
 have hlen:its.toArray.size=xs.length:=by rw [qA8]; exact r.length.symm
 refine ⟨"tuple",_,PyProof.Rows.slot_tuple_getitem.lookup,ht.typeIs,?_⟩
 refine HT.getItem_tuple_cut ht hs pl pu (by rw [hlen]; exact hw) ?_ (by rw [hlen]; exact hz)
 rw [hlen]
 refine ⟨.ref s.heap.objs.size,_,I.laid (t':=s.toks) (o:=.tup (cutV xs lo hi)) (fun b ob q=>qA4 _ q) (qB0 _) ?_,rfl,q _ (I.hok.fresh (qB0 _))⟩
 exact ⟨qC6 (zHx xs lo hi) hz,_,(r.drop (HT.sIx xs.length 0 lo)).take (HT.sIx xs.length xs.length hi - HT.sIx xs.length 0 lo),IsTup.new _ _⟩
noncomputable def zZL (K:W.Frag):R2:=fun x y H Q=>∃ a b xs ys,x=.ref a∧y=.ref b∧SqT K H a xs∧SqT K H b ys∧xs≠[]∧xs.length+ys.length≤sizeLine ∧
 (ys=[]→Q (.ref a) H)∧(ys≠[]→∀ p,H p=none→Q (.ref p) (upd H p (.tup (xs++ys))))
theorem Vals.nil_iff {xs:List V}{us:List Value} (r:Vals xs us):us=[]↔xs=[]:=by
 cases r with
 | nil=>simp
 | cons _ _=>simp
theorem zUE:OpR X (binaryOp .Add) (zZL X.K):=by
 intro pins s σ H x y v u Q I rx ry h
 obtain ⟨a,b,xs,ys,rfl,rfl,ha,hb,hx,hz,q1,q2⟩:=h
 cases rx
 cases ry
 obtain ⟨its,r1,p1,_⟩:=I.tuple ha
 obtain ⟨its2,r2,p2,_⟩:=I.tuple hb
 refine HT.cat_tup p1 p2 (fun z=>hx (r1.nil_iff.mp z)) (fun z=>⟨.ref a,H,I,rfl,q1 (r2.nil_iff.mp z)⟩) (fun z=>?_) (by rw [← r1.length,← r2.length]; exact hz)
 refine ⟨.ref s.heap.objs.size,_,I.laid (t':=s.toks) (o:=.tup (xs++ys)) (fun b ob q=>qA4 _ q) (qB0 _) ?_,rfl,q2 (fun w=>z (r2.nil_iff.mpr w)) _ (I.hok.fresh (qB0 _))⟩
 exact ⟨by rw [qC4]; exact hz,_,r1.append r2,IsTup.new _ _⟩
end
noncomputable def ixN (n:Nat) (i:Int):Option Nat:=if 0≤i then (if i<n then some i.toNat else none) else if -(n:Int)≤i then some (i+n).toNat else none
noncomputable def atI {α:Type} (xs:List α) (i:Int):Option α:=(ixN xs.length i).bind fun j=>xs[j]?
theorem zQ9 {n:Nat}{i:Int}{j:Nat} (h:ixN n i=some j):seqIndex? i n=some j∧j<n∧-(n:Int)≤i∧i<n:=by
 unfold ixN at h
 by_cases h0:0≤i
 ·rw [if_pos h0] at h
  by_cases h1:i<n
  ·rw [if_pos h1] at h
   have e:i.toNat=j:=Option.some.inj h
   exact ⟨by rw [seqIndex_of h0 h1,e],by omega,by omega,h1⟩
  ·rw [if_neg h1] at h; cases h
 ·rw [if_neg h0] at h
  by_cases h1:-(n:Int)≤i
  ·rw [if_pos h1] at h
   have e:(i+n).toNat=j:=Option.some.inj h
   exact ⟨by rw [seqIndex_neg (by omega) h1,e],by omega,h1,by omega⟩
  ·rw [if_neg h1] at h; cases h
theorem zRc {α:Type}{xs:List α}{i:Int}{v:α} (h:atI xs i=some v):∃ j,seqIndex? i xs.length=some j∧xs[j]?=some v∧j<xs.length∧-(xs.length:Int)≤i∧i<xs.length:=by
 unfold atI at h
 cases e:ixN xs.length i with
 | none=>rw [e] at h; cases h
 | some j =>
  rw [e] at h
  obtain ⟨h1,h2,h3,h4⟩:=zQ9 e
  exact ⟨j,h1,h,h2,h3,h4⟩
theorem zCQ {α:Type}{xs:List α}{j:Nat}{v:α} (h:xs[j]?=some v):atI xs (j:Int)=some v:=by
 have hj:j<xs.length:=(qA5.mp h).1
 have e:ixN xs.length (j:Int)=some j:=by
  unfold ixN
  rw [if_pos (by omega),if_pos (by omega)]; simp
 unfold atI; rw [e]; exact h
def zMv (b:Expr):Prop:=∀ o i,subscripted b false o i=operate [o,i] (getItem o i)
def IxR (X:Cx) (r:R2):Prop :=
 ∀ (value slice:Expr) (pins:List (Addr × Obj)) (s:Shared) (σ:St) (H:Hp) (x y:V) (v u:Value) (Q:VK),Inv X pins σ H s→RelV x v→RelV y u→r x y H Q →
  subscripted slice false v u=operate [v,u] (getItem v u)→wpAny (model X.prog X.w) X.A (subscriptTail value slice v u) (EP X pins σ Q) X.xe s
def MtR (X:Cx) (id:String) (r:V→List V→Hp→VK→Prop):Prop :=
 ∀ (pins:List (Addr × Obj)) (s:Shared) (σ:St) (H:Hp) (x:V) (xs:List V) (v:Value) (us:List Value) (Q:VK),Inv X pins σ H s→RelV x v→Vals xs us→r x xs H Q →
  wpAny (model X.prog X.w) X.A (call (.builtin id) (v::us)) (EP X pins σ Q) X.xe s
section
variable {X:Cx}{a b:Expr}{ta tb:TE}{pos:Pos}
theorem zZX {r:R2} (hr:IxR X r) (ha:PE X a ta) (hb:PE X b tb) (hs:zMv b):PE X (.Subscript a b pos) (tOp r ta tb):=by
 intro pins s σ H Q I h
 exact Subscript_ (binT ha hb I h fun v u s2 x y H2 I2 rx ry q=>hr a b pins s2 σ H2 x y v u Q I2 rx ry q (hs _ _))
noncomputable def rIxL (K:W.Frag):R2:=fun x y H Q=>∃ p xs i v,x=.ref p∧y=.int i∧SqL K H p xs∧atI xs i=some v∧Q v H
noncomputable def rIxT (K:W.Frag):R2:=fun x y H Q=>∃ p xs i v,x=.ref p∧y=.int i∧SqT K H p xs∧atI xs i=some v∧Q v H
theorem zUX:IxR X (rIxL X.K):=by
 intro value slice pins s σ H x y v u Q I rx ry h hs
 obtain ⟨p,xs,i,z,rfl,rfl,hq,he,q⟩:=h
 cases rx
 obtain ⟨t,rfl⟩:=ry
 obtain ⟨its,r,pl,hz⟩:=I.list hq
 obtain ⟨j,h1,h2,h3,h4,h5⟩:=zRc he
 obtain ⟨w,ew,rw'⟩:=r.get h2
 have hl:=r.length
 have hn:=zIy
 have fin:EP X pins σ Q w s:=⟨z,H,I,rw',q⟩
 by_cases h0:0≤i
 ·have hj:i.toNat=j:=by
   rw [seqIndex_of h0 h5] at h1
   exact Option.some.inj h1
  exact item_listR pl.isList h0 (by omega) (by rw [hj]; simpa using ew) fin hs
 ·have hj:(i+(its.toArray.size:Int)).toNat=j:=by
   rw [seqIndex_neg (by omega) h4] at h1
   rw [qA8,← hl]
   exact Option.some.inj h1
  exact subscriptTail_builtinR (x:=w) pl.isList.typeIs slot_list_getitem.lookup
   (wpAny_getItem_list_neg (Q:=fun r s'=>r=w∧EP X pins σ Q r s') pl.isList (by omega) (by rw [qA8] <;> omega) (by omega) (by rw [hj]; simpa using ew) ⟨rfl,fin⟩) hs
theorem zXK:IxR X (rIxT X.K):=by
 intro value slice pins s σ H x y v u Q I rx ry h hs
 obtain ⟨p,xs,i,z,rfl,rfl,hq,he,q⟩:=h
 cases rx
 obtain ⟨t,rfl⟩:=ry
 obtain ⟨its,r,pl,hz⟩:=I.tuple hq
 obtain ⟨j,h1,h2,h3,h4,h5⟩:=zRc he
 obtain ⟨w,ew,rw'⟩:=r.get h2
 have hl:=r.length
 have hn:=zIy
 have fin:EP X pins σ Q w s:=⟨z,H,I,rw',q⟩
 exact subscriptTail_builtinR (x:=w) pl.typeIs slot_tuple_getitem.lookup
  (getItem_tuple (j:=j) (Q:=fun r s'=>r=w∧EP X pins σ Q r s') pl (by omega) (by omega) (by rw [qA8,← hl]; exact h1) (by simpa using ew) ⟨rfl,fin⟩) hs
theorem zNV (its:List Value) (n j:Nat) (u:Value):Obj.mapSeq (·.setIfInBounds j u) { cls:=.type "list",data:=.seq its.toArray n }={ cls:=.type "list",data:=.seq (its.set j u).toArray n }:=by
 simp [Obj.mapSeq]
theorem Inv.lst {pins:List (Addr × Obj)}{σ:St}{H:Hp}{s:Shared}{p:Addr}{xs:List V} (I:Inv X pins σ H s) (h:H p=some (.lst xs)) :
  ∃ (its:List Value) (n:Nat),Vals xs its∧s.heap.get? p=some { cls:=.type "list",data:=.seq its.toArray n }∧xs.length≤sizeLine:=by
 obtain ⟨z,its,n,r,e⟩:=I.hok p _ h
 exact ⟨its,n,r,e,z⟩
theorem Inv.lstUpd {pins:List (Addr × Obj)}{σ:St}{H:Hp}{s:Shared}{p:Addr}{xs ys:List V}{its its':List Value}{n n':Nat}{f:Obj→Obj} (I:Inv X pins σ H s) (h:H p=some (.lst xs))
  (ho:s.heap.get? p=some { cls:=.type "list",data:=.seq its.toArray n }) (hf:f { cls:=.type "list",data:=.seq its.toArray n }={ cls:=.type "list",data:=.seq its'.toArray n' }) (r:Vals ys its') (hz:ys.length≤sizeLine) (t:Nat) :
  Inv X pins σ (upd H p (.lst ys)) { s with heap:=s.heap.update p f,toks:=t }:=by
 have e:(s.heap.update p f).get? p=some { cls:=.type "list",data:=.seq its'.toArray n' }:=by
  rw [qI9 f ho (by rw [hf] <;> rfl),hf]
 refine I.write (x:=p) (e:=p) (by rw [h]; trivial) (.inl rfl) (fun b u hb q=>(qN7 _ _ (Ne.symm hb)).trans q) ⟨_,e⟩ ?_
 exact ⟨hz,its',n',r,e⟩
noncomputable def zZI:V→V→V→Hp→(Hp→Prop)→Prop:=fun o i v H Q=>∃ p xs k j,o=.ref p∧i=.int k∧H p=some (.lst xs)∧ixN xs.length k=some j∧Q (upd H p (.lst (xs.set j v)))
theorem zRB:PSet X zZI:=by
 intro pins s σ H o i v ov iv u Q I ro ri rv h
 obtain ⟨p,xs,k,j,rfl,rfl,hp,hj,q⟩:=h
 cases ro
 obtain ⟨t,rfl⟩:=ri
 obtain ⟨its,n,r,ho,hz⟩:=I.lst hp
 obtain ⟨h1,h2,h3,h4⟩:=zQ9 hj
 have hl:=r.length
 have hn:=zIy
 have I':Inv X pins σ (upd H p (.lst (xs.set j v))) { s with heap:=s.heap.update p (Obj.mapSeq (·.setIfInBounds j u)) } :=
  I.lstUpd hp ho (zNV its n j u) (r.set rv j) (by rw [qI7]; exact hz) s.toks
 by_cases h0:0≤k
 ·have hk:k.toNat=j:=by
   rw [seqIndex_of h0 h4] at h1
   exact Option.some.inj h1
  exact W.ki_setAt ho h0 (by omega) (by rw [qA8,← hl]; exact h4) (by rw [hk]; exact ⟨_,I',q⟩)
 ·have hk:(k+(its.toArray.size:Int)).toNat=j:=by
   rw [seqIndex_neg (by omega) h3] at h1
   rw [qA8,← hl]
   exact Option.some.inj h1
  exact W.ki_setBack ho (by omega) (by rw [qA8,← hl]; exact h3) (by omega) (by rw [hk]; exact ⟨_,I',q⟩)
theorem zJY (lo hi:Option Int) (n:Nat):(sliceBounds lo hi none n).1=((HT.sIx n 0 lo:Nat):Int)∧(sliceBounds lo hi none n).2.1=((HT.sIx n n hi:Nat):Int)∧(sliceBounds lo hi none n).2.2=1:=by
 refine ⟨?_,?_,rfl⟩
 ·cases lo with
  | none=>simp [sliceBounds,HT.sIx]
  | some i =>
   simp only [sliceBounds,HT.sIx,qQ5,show (1:Int)>0 by decide,if_true]
   by_cases h:i<0
   ·simp only [h,if_true] <;> omega
   ·simp only [h,if_false] <;> omega
 ·cases hi with
  | none=>simp [sliceBounds,HT.sIx]
  | some i =>
   simp only [sliceBounds,HT.sIx,qQ5,show (1:Int)>0 by decide,if_true]
   by_cases h:i<0
   ·simp only [h,if_true] <;> omega
   ·simp only [h,if_false] <;> omega
theorem zJ3 (its:List Value) (lo hi:Option Int):slicePick its.toArray lo hi none=((its.drop (HT.sIx its.length 0 lo)).take (HT.sIx its.length its.length hi - HT.sIx its.length 0 lo)).toArray:=by
 obtain ⟨h1,h2,h3⟩:=zJY lo hi its.toArray.size
 unfold slicePick
 rw [h1,h2,h3]
 simp only [sliceRange_one,pick_run,qA8] <;> rfl
noncomputable def rSlL (K:W.Frag):V→Option Int→Option Int→Hp→VK→Prop:=fun x lo hi H Q=>∃ a xs,x=.ref a∧SqL K H a xs∧∀ p,H p=none→Q (.ref p) (upd H p (.lst (cutV xs lo hi)))
theorem zTP:SlR X (rSlL X.K):=by
 intro pins s σ H x v vl vu lo hi sl Q I rx hs pl pu h
 obtain ⟨a,xs,rfl,hx,q⟩:=h
 cases rx
 obtain ⟨its,r,ht,hz⟩:=I.list hx
 have hlen:=r.length
 refine ⟨"list",_,slot_list_getitem.lookup,ht.isList.typeIs,?_⟩
 refine wpAny_getItem_list_slice ht.isList hs pl pu .none (by simp) ?_ (by rw [qA8] <;> omega)
 rw [zJ3,← hlen]
 refine ⟨.ref s.heap.objs.size,_,I.laid (t':=s.toks) (o:=.lst (cutV xs lo hi)) (fun b ob q=>qA4 _ q) (qB0 _) ?_,rfl,q _ (I.hok.fresh (qB0 _))⟩
 exact ⟨qC6 (zHx xs lo hi) hz,_,0,(r.drop (HT.sIx xs.length 0 lo)).take (HT.sIx xs.length xs.length hi - HT.sIx xs.length 0 lo),qB4 _ rfl⟩
noncomputable def zI6:V→Bool
 | .non=>true
 | .bl _=>true
 | .int _=>true
 | .str _=>true
 | _=>false
noncomputable def eqV:V→V→Bool
 | .non,.non=>true
 | .bl a,.bl b=>a == b
 | .bl a,.int b=>(if a then 1 else 0) == b
 | .int a,.bl b=>a == (if b then 1 else 0)
 | .int a,.int b=>a == b
 | .str a,.str b=>a == b
 | _,_=>false
theorem zY4 {A:Around}{s:Shared}{y x:V}{u v:Value} (ry:RelV y u) (rx:RelV x v) (fy:zI6 y=true) (fx:zI6 x=true):SeqAt.EqAt A s u v (eqV y x):=by
 cases y with
 | non =>
  cases ry
  cases x with
  | non=>cases rx; exact SeqAt.EqAt.same _
  | bl b=>cases rx; exact SeqAt.EqAt.none_bool b
  | int b=>obtain ⟨t,rfl⟩:=rx; exact SeqAt.EqAt.none_int b t
  | str b=>obtain ⟨t,rfl⟩:=rx; exact SeqAt.EqAt.none_str b t
  | _=>exact absurd (show false=true from fx) qA7
 | bl a =>
  cases ry
  cases x with
  | non=>cases rx; exact SeqAt.EqAt.bool_none a
  | bl b=>cases rx; exact SeqAt.EqAt.bool_bool a b
  | int b=>obtain ⟨t,rfl⟩:=rx; exact SeqAt.EqAt.bool_int a b t
  | str b=>obtain ⟨t,rfl⟩:=rx; exact SeqAt.EqAt.bool_str a b t
  | _=>exact absurd (show false=true from fx) qA7
 | int a =>
  obtain ⟨t',rfl⟩:=ry
  cases x with
  | non=>cases rx; exact SeqAt.EqAt.int_none a t'
  | bl b=>cases rx; exact SeqAt.EqAt.int_bool a t' b
  | int b=>obtain ⟨t,rfl⟩:=rx; exact SeqAt.EqAt.int_int a t' b t
  | str b=>obtain ⟨t,rfl⟩:=rx; exact SeqAt.EqAt.int_str a t' b t
  | _=>exact absurd (show false=true from fx) qA7
 | str a =>
  obtain ⟨t',rfl⟩:=ry
  cases x with
  | non=>cases rx; exact SeqAt.EqAt.str_none a t'
  | bl b=>cases rx; exact SeqAt.EqAt.str_bool a t' b
  | int b=>obtain ⟨t,rfl⟩:=rx; exact SeqAt.EqAt.str_int a t' b t
  | str b=>obtain ⟨t,rfl⟩:=rx; exact SeqAt.EqAt.str_str a t' b t
  | _=>exact absurd (show false=true from fx) qA7
 | _=>exact absurd (show false=true from fy) qA7
noncomputable def eqU (x:V) (u:Value):Bool:=match u with
 | .none=>eqV .non x
 | .bool b=>eqV (.bl b) x
 | .int i _=>eqV (.int i) x
 | .str z _=>eqV (.str z) x
 | _=>false
theorem zTh {x y:V}{u:Value} (r:RelV y u) (f:zI6 y=true):eqU x u=eqV y x:=by
 cases y with
 | non=>cases r; rfl
 | bl b=>cases r; rfl
 | int i=>obtain ⟨t,rfl⟩:=r; rfl
 | str z=>obtain ⟨t,rfl⟩:=r; rfl
 | _=>exact absurd (show false=true from f) qA7
theorem zHR {x:V}:∀ {xs:List V}{us:List Value},Vals xs us→xs.all zI6=true→us.any (eqU x)=xs.any fun y=>eqV y x
 | _,_,.nil,_=>rfl
 | y::xs,u::us,.cons r t,f=>by
  rw [qJ8,qC7] at f
  rw [qE9,qE9,zTh r f.1,zHR t f.2]
theorem zFc {A:Around}{s:Shared}{x:V}{v:Value} (rx:RelV x v) (fx:zI6 x=true):∀ {xs:List V}{us:List Value},Vals xs us→xs.all zI6=true→∀ u∈us,SeqAt.EqAt A s u v (eqU x u)
 | _,_,.nil,_=>fun u hu=>by cases hu
 | y::xs,u::us,.cons r t,f=>fun u' hu=>by
  rw [qJ8,qC7] at f
  rcases qB7.mp hu with rfl | hu
  ·rw [zTh r f.1]; exact zY4 r rx f.1 fx
  ·exact zFc rx fx t f.2 u' hu
noncomputable def inV (x:V) (xs:List V):Bool:=xs.any fun y=>eqV y x
noncomputable def rIn (K:W.Frag) (neg:Bool):R2:=fun x y H Q=>∃ p xs,y=.ref p∧(SqL K H p xs∨SqT K H p xs)∧zI6 x=true∧xs.all zI6=true∧Q (.bl (if neg then !inV x xs else inV x xs)) H
theorem zPD:OpR X (compareOp .In) (rIn X.K false):=by
 intro pins s σ H x y v u Q I rx ry h
 obtain ⟨p,xs,rfl,hq,fx,fs,q⟩:=h
 cases ry
 rcases hq with hq | hq
 ·obtain ⟨its,r,pl,hz⟩:=I.list hq
  refine SeqAt.in_listAt (eqU x) pl.isList (fun w hw=>zFc rx fx r fs w (by simpa using hw)) ⟨.bl _,H,I,rfl,?_⟩
  rw [show its.toArray.any (eqU x)=its.any (eqU x) by simp,zHR r fs]
  exact q
 ·obtain ⟨its,r,pl,hz⟩:=I.tuple hq
  refine SeqAt.in_tupleAt (eqU x) pl (fun w hw=>zFc rx fx r fs w (by simpa using hw)) ⟨.bl _,H,I,rfl,?_⟩
  rw [show its.toArray.any (eqU x)=its.any (eqU x) by simp,zHR r fs]
  exact q
theorem zKl:OpR X (compareOp .NotIn) (rIn X.K true):=by
 intro pins s σ H x y v u Q I rx ry h
 obtain ⟨p,xs,rfl,hq,fx,fs,q⟩:=h
 cases ry
 rcases hq with hq | hq
 ·obtain ⟨its,r,pl,hz⟩:=I.list hq
  refine SeqAt.notIn_listAt (eqU x) pl.isList (fun w hw=>zFc rx fx r fs w (by simpa using hw)) ⟨.bl _,H,I,rfl,?_⟩
  rw [show its.toArray.any (eqU x)=its.any (eqU x) by simp,zHR r fs]
  exact q
 ·obtain ⟨its,r,pl,hz⟩:=I.tuple hq
  refine SeqAt.notIn_tupleAt (eqU x) pl (fun w hw=>zFc rx fx r fs w (by simpa using hw)) ⟨.bl _,H,I,rfl,?_⟩
  rw [show its.toArray.any (eqU x)=its.any (eqU x) by simp,zHR r fs]
  exact q
theorem zKY:zCw X (.builtin "len") (fun xs H Q=>∃ p ys,xs=[.ref p]∧(SqL X.K H p ys∨SqT X.K H p ys)∧Q (.int ys.length) H):=by
 intro pins s σ H xs us Q I r h
 obtain ⟨p,ys,rfl,hq,q⟩:=h
 obtain ⟨u,rfl,rx⟩:=zF2 r
 cases rx
 have hn:=zIy
 rcases hq with hq | hq
 ·obtain ⟨its,r',pl,hz⟩:=I.list hq
  have hlen:=r'.length
  exact Calls.call_len_list pl.isList (by simp only [qA8] <;> omega) ⟨.int ys.length,H,I.tok _,⟨s.toks+1,by rw [qA8,hlen]⟩,q⟩
 ·obtain ⟨its,r',pl,hz⟩:=I.tuple hq
  have hlen:=r'.length
  exact len_tuple pl (by simp only [qA8] <;> omega) ⟨.int ys.length,H,I.tok _,⟨s.toks+1,by rw [qA8,hlen]⟩,q⟩
theorem zKX:zCw X (.builtin "len") (fun xs H Q=>∃ z,xs=[.str z]∧z.length≤sizeLine∧Q (.int z.length) H):=by
 intro pins s σ H xs us Q I r h
 obtain ⟨z,rfl,hz,q⟩:=h
 obtain ⟨u,rfl,t,rfl⟩:=zF2 r
 have hn:=zIy
 exact len_str (by omega) ⟨.int z.length,H,I.tok _,⟨_,rfl⟩,q⟩
theorem zKW:zCw X (.type "list") (fun xs H Q=>∃ p ys,xs=[.ref p]∧(SqL X.K H p ys∨SqT X.K H p ys)∧∀ l,H l=none→Q (.ref l) (upd H l (.lst ys))):=by
 intro pins s σ H xs us Q I r h
 obtain ⟨p,ys,rfl,hq,q⟩:=h
 obtain ⟨u,rfl,rx⟩:=zF2 r
 cases rx
 have fin:∀ (its:List Value),Vals ys its→ys.length≤sizeLine→∀ (h':Heap) (c':Nat),(∀ b o',s.heap.get? b=some o'→h'.get? b=some o') →
   h'.get? s.heap.objs.size=some { cls:=.type "list",dict:=none,data:=.seq its.toArray c',slots:=#[] }→EP X pins σ Q (.ref s.heap.objs.size) { s with heap:=h' }:=fun its r' hz h' c' kp e =>
  ⟨.ref s.heap.objs.size,_,I.laid (t':=s.toks) kp (qB0 _) (show zCE X.prog X.w _ h' _ (.lst ys) from ⟨hz,its,c',r',e⟩),rfl,q _ (I.hok.fresh (qB0 _))⟩
 rcases hq with hq | hq
 ·obtain ⟨its,r',pl,hz⟩:=I.list hq
  have hlen:=r'.length
  obtain ⟨o,ho,hc,n,hd⟩:=pl.isList
  exact call_list_seq p (.inl rfl) ho hc hd (fun h' c' kp e=>fin its r' hz h' c' kp e) (by simp only [qA8] <;> omega)
 ·obtain ⟨its,r',pl,hz⟩:=I.tuple hq
  have hlen:=r'.length
  obtain ⟨o,ho,hc,n,hd⟩:=pl
  exact call_list_seq p (.inr rfl) ho hc hd (fun h' c' kp e=>fin its r' hz h' c' kp e) (by simp only [qA8] <;> omega)
theorem zFn:zCw X (.type "tuple") (fun xs H Q=>∃ p ys,xs=[.ref p]∧((SqL X.K H p ys∧∀ l,H l=none→Q (.ref l) (upd H l (.tup ys)))∨(SqT X.K H p ys∧Q (.ref p) H))):=by
 intro pins s σ H xs us Q I r h
 obtain ⟨p,ys,rfl,h⟩:=h
 obtain ⟨u,rfl,rx⟩:=zF2 r
 cases rx
 rcases h with ⟨hq,q⟩ | ⟨hq,q⟩
 ·obtain ⟨its,r',pl,hz⟩:=I.list hq
  have hlen:=r'.length
  refine call_tuple_list pl.isList (fun h' kp=>?_) (by simp only [qA8] <;> omega)
  have I1:Inv X pins σ H { s with heap:=h' }:=I.kept (t':=s.toks) kp
  have I2:Inv X pins σ (upd H h'.objs.size (.tup ys)) { s with heap:=h'.push { cls:=.type "tuple",data:=.seq its.toArray } } :=
   I1.laid (t':=s.toks) (fun b o e=>qA4 _ e) (qB0 _) (show zCE X.prog X.w _ _ _ (.tup ys) from ⟨hz,its,r',IsTup.new _ _⟩)
  exact ⟨.ref h'.objs.size,_,I2,rfl,q _ (I1.hok.fresh (qB0 _))⟩
 ·obtain ⟨its,r',pl,hz⟩:=I.tuple hq
  exact call_tuple_same pl ⟨.ref p,H,I,rfl,q⟩
def tyV (K:W.Frag) (T:String) (x:V) (H:Hp):Prop:=match x with
 | .str _=>T = "str"
 | .int _=>T = "int"
 | .ref p=>(T = "list"∧∃ xs,SqL K H p xs)∨(T = "tuple"∧∃ o,K.lookup p=some o∧o.cls=.type "tuple"∧o.dict=none) ∨
   (T = "dict"∧((∃ kvs,H p=some (.dK kvs))∨∃ kvs,H p=some (.dT kvs)))∨(T = "set"∧∃ S n,H p=some (.set S n))
 | _=>False
theorem zVT {pins:List (Addr × Obj)}{σ:St}{H:Hp}{s:Shared}{T:String}{x:V}{v:Value} (I:Inv X pins σ H s) (r:RelV x v) (ty:tyV X.K T x H) :
  s.TypeIs v T∧∀ a,v=.ref a→∃ ob,s.heap.get? a=some ob∧ob.dict=none:=by
 cases x with
 | str z =>
  obtain ⟨t,rfl⟩:=r
  cases (show T = "str" from ty)
  exact ⟨typeIs_str s z t,fun _ e=>nomatch e⟩
 | int i =>
  obtain ⟨t,rfl⟩:=r
  cases (show T = "int" from ty)
  exact ⟨typeIs_int s i t,fun _ e=>nomatch e⟩
 | ref p =>
  cases r
  rcases ty with ⟨rfl,xs,hq⟩ | ⟨rfl,o,hk,hc,hd⟩ | ⟨rfl,hk⟩ | ⟨rfl,S,n,hk⟩
  ·obtain ⟨its,_,pl,_⟩:=I.list hq
   refine ⟨pl.isList.typeIs,fun a e=>?_⟩
   cases e
   obtain ⟨o,n,e,c,hd,_⟩:=pl
   exact ⟨o,e,hd⟩
  ·refine ⟨⟨o,I.kIn p o hk,hc⟩,fun a e=>?_⟩
   cases e
   exact ⟨o,I.kIn _ o hk,hd⟩
  ·have z:∃ o,s.heap.get? p=some o∧o.ExactDict:=by
    rcases hk with ⟨kvs,hk⟩ | ⟨kvs,hk⟩
    ·obtain ⟨_,_,_,_,o,_,_,e,ex,_⟩:=I.hok p _ hk
     exact ⟨o,e,ex⟩
    ·obtain ⟨_,_,_,_,o,_,_,e,ex,_⟩:=I.hok p _ hk
     exact ⟨o,e,ex⟩
   obtain ⟨o,e,ex⟩:=z
   refine ⟨⟨o,e,ex.1⟩,fun a e2=>?_⟩
   cases e2
   exact ⟨o,e,ex.2.1⟩
  ·obtain ⟨o,_,_,_,e,ex,_⟩:=I.hok p _ hk
   refine ⟨⟨o,e,ex.1⟩,fun a e2=>?_⟩
   cases e2
   exact ⟨o,e,ex.2.1⟩
 | _=>exact False.elim ty
noncomputable def tBM (K:W.Frag) (T:String) (r:V→List V→Hp→VK→Prop) (to:TE) (t:TA):TE:=fun σ H Q=>to σ H fun x H1=>tyV K T x H1∧t σ H1 fun xs H2=>r x xs H2 Q
variable {o e:Expr}{es:List Expr}{to:TE}{t:TA}{name:Str}{apos cpos:Pos}{T id:String}{r:V→List V→Hp→VK→Prop}
theorem zZY (pa:PlainAttrs T) (slot:Slot T name id) (hty:typeOf (.builtin id)=pure (.type "method_descriptor")) (hm:MtR X id r) (ho:PE X o to) (ha:PA X (e::es) t)
  (hbase:attributeBase o name X.env (eval o X.env)=eval o X.env:=by rfl)
  (hfew:((backTo cpos (starEach (e::es) X.env)).all (fun x=>!x.1)&&(backToKw cpos (keywordEach [] X.env)).all (fun x=>x.1.isSome)
   && decide ((e::es).length+([]:List Keyword).length+(if ([]:List Keyword).isEmpty then 0 else 1)<30))=true:=by rfl)
  (hline:(apos.endLine == cpos.line)=true:=by rfl) (hs:starEach (e::es) X.env=(false,eval e X.env)::starEach es X.env:=by rfl) (hplain:(backTo cpos (starEach es X.env)).any (·.1)=false:=by rfl) :
  PE X (.Call (.Attribute o name apos) (e::es) [] cpos) (tBM X.K T r to t):=by
 intro pins s σ H Q I h
 refine wpAny_Call_method_late hbase hfew hline rfl (thn (ho pins s σ H _ I h) fun v s1 ⟨x,H1,I1,r1,ty,q1⟩=>?_)
 obtain ⟨h1,h2⟩:=zVT I1 r1 ty
 refine ⟨T,id,pa,slot,hty,h1,h2,?_⟩
 have hA:=ha cpos pins s1 σ H1 _ I1 q1
 rw [hs] at hA ⊢
 refine Calls.callWith_builtin (by show (false||(backTo cpos (starEach es X.env)).any (·.1))=false; rw [hplain] <;> rfl) (Calls.evalArgs_plain ?_)
 exact thn hA fun us s2 ⟨vs,H2,I2,r2,q2⟩=>hm pins s2 σ H2 x vs v us Q I2 r1 r2 q2
end
def MtM (X:Cx) (id:String) (r:V→List V→Hp→VK→Prop):Prop :=
 ∀ (pins:List (Addr × Obj)) (s:Shared) (σ:St) (H:Hp) (x:V) (xs:List V) (v:Value) (us:List Value) (Q:VK),Inv X pins σ H s→RelV x v→Vals xs us→r x xs H Q →
  wpAny (model X.prog X.w) X.A (call (.builtin id) (v::us)) (EP X pins σ Q) X.xe s
theorem Vals.cinv {x:V}{xs:List V}:∀ {us:List Value},Vals (x::xs) us→∃ u r,us=u::r∧RelV x u∧Vals xs r
 | _,.cons r t=>⟨_,_,rfl,r,t⟩
theorem Vals.ninv:∀ {us:List Value},Vals [] us→us=[]
 | _,.nil=>rfl
theorem Vals.one {x:V}{us:List Value} (h:Vals [x] us):∃ u,us=[u]∧RelV x u:=by
 obtain ⟨u,r,rfl,a,t⟩:=h.cinv
 rw [t.ninv]
 exact ⟨u,rfl,a⟩
theorem Vals.two {x y:V}{us:List Value} (h:Vals [x,y] us):∃ u v,us=[u,v]∧RelV x u∧RelV y v:=by
 obtain ⟨u,r,rfl,a,t⟩:=h.cinv
 obtain ⟨v,rfl,b⟩:=t.one
 exact ⟨u,v,rfl,a,b⟩
theorem Vals.rep {xs:List V}{us:List Value} (h:Vals xs us):∀ k:Nat,Vals (qC2 k xs).flatten (qC2 k us).flatten
 | 0=>.nil
 | k+1=>by
  rw [qF4,qF4,qH3,qH3]
  exact Vals.append h (Vals.rep h k)
theorem zFh (its:List Value):∀ (k:Nat) (acc:List Value),
  qM5 (fun x1 x2=>x1++x2) acc.toArray (qC2 k its.toArray)=(acc++(qC2 k its).flatten).toArray
 | 0,acc=>by simp
 | k+1,acc=>by
  have e:acc.toArray++its.toArray=(acc++its).toArray:=by simp
  have e2:(acc++its)++(qC2 k its).flatten=acc++(qC2 (k+1) its).flatten:=by
   rw [qF4,qH3,qH4]
  rw [← e2,← zFh its k (acc++its),← e,qF4,qK0]
section
variable {X:Cx}{pins:List (Addr × Obj)}{σ:St}{H:Hp}{s:Shared}{l b:Addr}{xs ys zs:List V}
theorem Inv.lset {its its':List Value}{n:Nat}{f:Array Value→Array Value}{t':Nat} (I:Inv X pins σ H s) (hH:H l=some (.lst xs))
  (e:s.heap.get? l=some { cls:=.type "list",data:=.seq its.toArray n }) (hf:f its.toArray=its'.toArray) (hv:Vals ys its') (hz:ys.length≤sizeLine) :
  Inv X pins σ (upd H l (.lst ys)) { s with heap:=s.heap.update l (Obj.mapSeq f),toks:=t' }:=by
 have q:=PySem.IsL.update e f
 rw [hf] at q
 refine I.write (x:=l) (e:=l) (by rw [hH]; exact trivial) (.inl rfl) (fun b' u hb hu=>(qN7 s.heap (Obj.mapSeq f) (Ne.symm hb)).trans hu) ⟨_,q⟩ ?_
 exact ⟨hz,its',_,hv,q⟩
theorem Inv.lnew {its:List Value}{t':Nat} (I:Inv X pins σ H s) (hv:Vals ys its) (hz:ys.length≤sizeLine) :
  Inv X pins σ (upd H s.heap.objs.size (.lst ys)) { s with heap:=s.heap.push { cls:=.type "list",data:=.seq its.toArray },toks:=t' } :=
 I.laid (fun _ _ q=>qA4 _ q) (qB0 _) ⟨hz,its,0,hv,qB4 _ rfl⟩
theorem Inv.fresh (I:Inv X pins σ H s):H s.heap.objs.size=none:=I.hok.fresh (qB0 _)
theorem Inv.lstM (I:Inv X pins σ H s) (hH:H l=some (.lst xs)):xs.length≤sizeLine∧∃ (its:List Value) (n:Nat),Vals xs its∧xs.length=its.length∧s.heap.get? l=some { cls:=.type "list",data:=.seq its.toArray n }:=by
 obtain ⟨z,its,n,r,e⟩:=I.hok l _ hH
 exact ⟨z,its,n,r,r.length,e⟩
theorem zJd {n:Nat} (h:n≤sizeLine):Builtin.List.listTooLong n=false:=by
 unfold Builtin.List.listTooLong
 exact decide_eq_false (by omega)
end
section
variable {X:Cx}
noncomputable def zU9:V→List V→Hp→VK→Prop:=fun x vs H Q=>∃ l xs y,x=.ref l∧vs=[y]∧H l=some (.lst xs)∧xs.length<sizeLine∧Q .non (upd H l (.lst (xs++[y])))
theorem zKo:MtM X "list.append" zU9:=by
 intro pins s σ H x vs v us Q I rx rv h
 obtain ⟨l,xs,y,rfl,rfl,hH,hz,q⟩:=h
 cases rx
 obtain ⟨u,rfl,ru⟩:=rv.one
 obtain ⟨z,its,n,r,hl,e⟩:=I.lstM hH
 refine call_meets F.slot_list_append ⟨_,e,rfl⟩ F.entry_list_append (F.args_list_append_2 _ _) (PySem.list_append l its.toArray n u (by rw [qA8]; omega)) ⟨e,?_⟩
 refine ⟨.non,_,I.lset (its':=its++[u]) hH e (by simp) (r.append (.cons ru .nil)) ?_,rfl,q⟩
 rw [qC4,List.length_singleton]
 omega
noncomputable def zU8:V→List V→Hp→VK→Prop:=fun x vs H Q=>∃ l b xs zs,x=.ref l∧vs=[.ref b]∧H l=some (.lst xs)∧H b=some (.lst zs)∧xs.length+zs.length≤sizeLine∧Q .non (upd H l (.lst (xs++zs)))
theorem zPT:MtM X "list.extend" zU8:=by
 intro pins s σ H x vs v us Q I rx rv h
 obtain ⟨l,b,xs,zs,rfl,rfl,hH,hB,hz,q⟩:=h
 cases rx
 obtain ⟨u,rfl,ru⟩:=rv.one
 cases ru
 obtain ⟨z,its,n,r,hl,e⟩:=I.lstM hH
 obtain ⟨z2,its2,n2,r2,hl2,e2⟩:=I.lstM hB
 have hsz:its.toArray.size+its2.toArray.size≤sizeLine:=by rw [qA8,qA8]; omega
 have hlong:¬ (!its.toArray.isEmpty&&Builtin.List.listTooLong (its.toArray.size+its2.toArray.size))=true:=by
  rw [zJd hsz,qR8]
  exact qA7
 refine call_meets F.slot_list_extend ⟨_,e,rfl⟩ F.entry_list_extend (F.args_list_extend_2 _ _)
  (AutoSeq1.list_extend_list_list_0 l its.toArray n b its2.toArray n2 hlong (by rw [qA8]; omega) (by omega)) ⟨e,e2,?_⟩
 refine ⟨.non,_,I.lset (its':=its++its2) hH e (by simp) (r.append r2) ?_,rfl,q⟩
 rw [qC4]
 omega
noncomputable def rCat:R2:=fun x y H Q=>∃ l b xs zs,x=.ref l∧y=.ref b∧H l=some (.lst xs)∧H b=some (.lst zs)∧xs.length+zs.length≤sizeLine∧∀ p,H p=none→Q (.ref p) (upd H p (.lst (xs++zs)))
theorem zXr:OpR X (binaryOp .Add) rCat:=by
 intro pins s σ H x y v u Q I rx ry h
 obtain ⟨l,b,xs,zs,rfl,rfl,hH,hB,hz,q⟩:=h
 cases rx
 cases ry
 obtain ⟨z,its,n,r,hl,e⟩:=I.lstM hH
 obtain ⟨z2,its2,n2,r2,hl2,e2⟩:=I.lstM hB
 refine PySem.P.add_list e e2 ?_ (by rw [qA8,qA8]; omega)
 have ea:its.toArray++its2.toArray=(its++its2).toArray:=by simp
 rw [ea]
 exact ⟨.ref _,_,I.lnew (t':=s.toks) (r.append r2) (by rw [qC4]; omega),rfl,q _ I.fresh⟩
noncomputable def rRep:R2:=fun x y H Q=>∃ l k xs,x=.ref l∧y=.int k∧H l=some (.lst xs)∧-(2 ^ 63)≤k∧k<2 ^ 63∧xs.length*k.toNat≤sizeLine ∧
 ∀ p,H p=none→Q (.ref p) (upd H p (.lst (qC2 k.toNat xs).flatten))
theorem zLI {α:Type} (xs:List α) (k:Nat):(qC2 k xs).flatten.length=k*xs.length:=by
 induction k with
 | zero=>simp
 | succ k ih=>rw [qF4,qH3,qC4,ih,Nat.succ_mul,Nat.add_comm]
theorem zXi:OpR X (binaryOp .Mult) rRep:=by
 intro pins s σ H x y v u Q I rx ry h
 obtain ⟨l,k,xs,rfl,rfl,hH,h1,h2,hz,q⟩:=h
 cases rx
 obtain ⟨t,rfl⟩:=ry
 obtain ⟨z,its,n,r,hl,e⟩:=I.lstM hH
 have hlen:its.toArray.size*k.toNat≤sizeLine:=by rw [qA8,← hl]; exact hz
 have hcap:¬ its.toArray.size*k.toNat>(2 ^ 63 - 1) / 8:=by
  have:(sizeLine:Nat)≤(2 ^ 63 - 1) / 8:=by decide
  omega
 have hfit:¬ (!Builtin.List.listFitsIndex k)=true:=by
  rw [fitsIndex_both h1 h2]
  exact qA7
 have hlong:¬ Builtin.List.listTooLong (its.toArray.size*k.toNat)=true:=by
  rw [zJd hlen]
  exact qA7
 have hnew:qM5 (fun x1 x2=>x1++x2) #[] (qC2 (if its.toArray.isEmpty=true then 0 else k.toNat) its.toArray)=(qC2 k.toNat its).flatten.toArray:=by
  have f0:∀ m:Nat,qM5 (fun x1 x2=>x1++x2) #[] (qC2 m its.toArray)=(qC2 m its).flatten.toArray:=fun m=>by
   have:=zFh its m []
   rw [qK1] at this
   exact this
  rw [f0]
  cases its with
  | nil=>simp
  | cons a r'=>rw [if_neg (by simp)]
 refine wpAny_binaryOp_repeat_ref (T := "list") (U := "int") (by decide) ⟨_,e,rfl⟩ (fun s'=>typeIs_int s' k t) noFill_list_mul F.fills_int_mul F.slot_int_rmul repeat_list F.slot_int_index.lookup
  (call_meets F.slot_int_rmul (typeIs_int s k t) F.entry_int_rmul (F.args_int_rmul_2 _ _) (int___rmul___int_list k t l its.toArray n)
   ⟨e,rfl,⟨_,e,rfl⟩,call_meets F.slot_list_mul ⟨_,e,rfl⟩ F.entry_list_mul (F.args_list_mul_2 _ _) (AutoListH.list___mul___list_int_3 l its.toArray n k t hfit hcap hlong) ⟨e,?_⟩⟩)
 rw [hnew]
 exact ⟨.ref _,_,I.lnew (t':=s.toks) (r.rep k.toNat) (by rw [zLI,qN8]; exact hz),rfl,q _ I.fresh⟩
end
end L2
namespace Att
open PySem PySem.W PySem.Calls PyProof.Rows
theorem zHg {P:Params}{h:Heap}:∀ (ns:List Int) (vs:List Value),WellAll P h vs (ns.map WData.int)→IntsAre vs ns:=by
 intro ns
 induction ns with
 | nil =>
  intro vs w
  rw [qJ4] at w
  cases w
  exact .nil
 | cons n ns ih =>
  intro vs w
  rw [qC5] at w
  cases w with
  | cons a b =>
   cases a
   exact .cons _ _ (ih _ b)
theorem zPi {l:OpenLaw}{n:Nat} (hn:l.most=some n) {P:Params}{h:Heap}{args:List WData}{vals:List Value}
  (hpre:l.row.toRowW.claim.pre args=true) (hwl:WellAll P h vals args) :
  ∃ a vs ns,vals=[Value.ref a]∧args=[WData.list (ns.map WData.int)]∧h.get? a=some { cls:=.type "list",data:=.seq vs.toArray }∧IntsAre vs ns∧ns.length≤n:=by
 have hsh:WShape.hasAll [] args [.list .int]=true:=(pre_splitW hpre).1
 have hc:l.pre.holds [] { args:=args }=true:=(pre_splitW hpre).2
 obtain ⟨d,r,rfl,h1,h2⟩:=hasAllW_cons hsh
 obtain rfl:=hasAllW_nil h2
 obtain ⟨xs,rfl,h3⟩:=hasW_list h1
 obtain ⟨ns,rfl⟩:=items_int h3
 have hlen:ns.length≤n:=by
  unfold OpenLaw.pre at hc
  have h4:(WTm.not (.lt (.lit (.int (n:Int))) (.len (.arg 0)))).holds [] { args:=[.list (ns.map .int)] }=true:=by
   have h4:=(holds_andW hc).1
   rw [hn] at h4
   exact h4
  have h5:=condW_of h4 (w_not (w_lt w_lit (w_len_list (w_arg rfl))))
  rw [qA2] at h5
  refine qJ5 fun q=>?_
  have q':(n:Int)<((ns.length:Nat):Int):=by omega
  first
   | (rw [decide_eq_true q'] at h5; exact absurd h5 (by decide))
   | (simp at h5; omega)
 cases hwl with
 | cons w1 w2 =>
  cases w2
  cases w1 with
  | list ho hall=>exact ⟨_,_,ns,rfl,rfl,ho,zHg ns _ hall,hlen⟩
theorem zPu (l:OpenLaw) (args:List WData):l.row.toRowW.claim.post args (.bool true) args=true :=
 postW_of (r:=l.row.toRowW) (X:=(true == true))
  (show WShape.has [] (.bool true) .bool=true by first | rfl | decide | simp [WShape.has,WShape.arms,WShape.armsAll])
  (show (WTm.eq .res (.lit (.bool true))).value [] { args:=args,res:=some (.bool true),after:=args }=some (.bool (true == true)) from w_eq_bool (w_res rfl) w_lit) rfl
theorem attach_call {l:OpenLaw}{n:Nat}{q:Program}{loose:List Str}{XP:(Str→Option Value)→Heap→Prop}{YP:World→Heap→Prop}{d:DefRec}
  (hn:l.most=some n) (hdf:d.params.defaults=[])
  (call:∀ (w:World) (s₀ s₁:Shared) (mg mb:Str→Option Value) (fa:Addr) (o:Obj) (pm cd doc:Value) (a:Addr) (vs:List Value) (ns:List Int),
   Ground q loose [] XP w s₀ mg mb s₁.heap→YP w s₁.heap →
   s₁.heap.get? fa=some o→o.data=.func (docDef d.name d.params d.body d.scope pm cd doc)→s₁.heap.CodeRec cd d.name→mg d.name=some (.ref fa) →
   s₁.heap.get? a=some { cls:=.type "list",data:=.seq vs.toArray }→IntsAre vs ns→ns.length≤n→s₁.gens=#[] →
   codeAny (model l.prog w) callerA (.call (.ref fa) ⟨[.ref a],[]⟩) (fun r s'=>r=.ok (.ret (.bool true))∧OldK s₁.heap s'.heap∧s'.os=s₁.os∧AllBare s'.gens) s₁) :
  WalkO q loose XP YP l.row.toRowW d [] (fun f vs=>PySem.call f vs):=by
 intro w s₀ s₁ mg mb G Y fa o pm cd doc dV kV ho hd hcd hD hmg hg args vals as hpre hlay hrd hwl hlo
 obtain rfl:dV=.none:=Dflts.none hD hdf
 obtain rfl:kV=.none:=Dflts.noKw hD
 obtain ⟨a,vs,ns,rfl,rfl,hobj,hints,hlen⟩:=zPi hn hpre hwl
 refine enter_call (codeAny_mono (call w s₀ s₁ mg mb fa o pm cd doc a vs ns G Y ho (fd_plain hd) hcd hmg hobj hints hlen hg) fun r s' hq=>?_)
 obtain ⟨rfl,h2,h3,h4⟩:=hq
 exact ⟨.inl ⟨.bool true,.bool true,[],rfl,fun _=>rfl,.bool true,zPu l _,fun _=>⟨List.Pairwise.nil,fun _ hm=>(nomatch hm)⟩⟩,h2,h3,h4⟩
end Att
namespace L2
open PySem PySem.Spec PyProof.Rows
theorem zJK:∀ {vs:List Value}{ns:List Int},IntsAre vs ns→Vals (ns.map V.int) vs
 | _,_,.nil=>.nil
 | _,_,.cons n t h=>.cons ⟨t,rfl⟩ (zJK h)
def Only (H:Hp):Prop:=∀ b,H b=none∨∃ o xs,H b=some (.frz o (.lst xs))
theorem zSh {P:Program}{w:World}{K:W.Frag}{mg mb:Str→Option Value}{CX:CXT}{k:Nat}{fa a:Addr}{fd:FuncData}{x:Str}{sp:Sp}{s₁:Shared}{vs:List Value}{ns:List Int}
  (KX:K.In s₁.heap) (hns:s₁.heap.Ns mainGlobals mg) (hb:s₁.heap.Ns builtinsNs mb) (hbb:∀ x:Str,x ≠ "__name__"→mb x=bootBuiltins x) (hlim:s₁.heap.NoLimit) (hg:s₁.gens=#[])
  (ha:s₁.heap.get? a=some { cls:=.type "list",data:=.seq vs.toArray }) (hi:IntsAre vs ns) (hl:ns.length≤sizeLine) (hr:Room k callerA)
  (F:∀ base:Heap,K.In base→base.Ns mainGlobals mg→FnOk P w K mg base CX k fa fd [x] sp) (hbind:∀ (s:Shared) (u:Value),BindsTo s fd ⟨[u],[]⟩ [(x,u)])
  (hsp:∀ H:Hp,Only H→SqL K H a (ns.map V.int)→sp [.ref a] H (fun v _=>v=.bl true) fun _ _ _=>False)
  (hCX:∀ H e s',CX [] H s₁ (fun _ _ _=>False) e s'→False) :
  codeAny (model P w) callerA (.call (.ref fa) ⟨[.ref a],[]⟩) (fun r s'=>r=.ok (.ret (.bool true))∧OldK s₁.heap s'.heap∧s'.os=s₁.os∧AllBare s'.gens) s₁:=by
 have rv:=zJK hi
 have lenV:=hi.length
 have core:∀ H:Hp,Only H→SqL K H a (ns.map V.int)→HOk P w H s₁.heap→(∀ b,H b≠none→b=a)→(H a≠none→K.lookup a=none) →
   codeAny (model P w) callerA (.call (.ref fa) ⟨[.ref a],[]⟩) (fun r s'=>r=.ok (.ret (.bool true))∧OldK s₁.heap s'.heap∧s'.os=s₁.os∧AllBare s'.gens) s₁:=by
  intro H hO hS hok hA hK
  have base_of:∀ {b:Addr}{o:Obj},s₁.heap.get? b=some o→H b=none→(hidT s₁.heap H).get? b=some o:=fun e n=>zSy e n
  have noA:∀ {b:Addr}{o:Obj}{es:Array DictEntry}{ep:Nat},s₁.heap.get? b=some o→o.data=.dict es ep→H b=none:=fun {b o es ep} e d=>by
   cases q:H b with
   | none=>rfl
   | some u =>
    have e':b=a:=hA b (by rw [q]; simp)
    subst e'
    rw [ha] at e; cases e
    have d':Data.seq vs.toArray _=Data.dict es ep:=d
    cases d'
  have nsK:∀ {b:Addr}{m:Str→Option Value},s₁.heap.Ns b m→(hidT s₁.heap H).Ns b m:=fun {b m} ⟨o,es,ep,e,d,r⟩=>⟨o,es,ep,base_of e (noA e d),d,r⟩
  have hKb:K.In (hidT s₁.heap H):=fun b o e=>base_of (KX b o e) (by
   cases q:H b with
   | none=>rfl
   | some u =>
    have e':b=a:=hA b (by rw [q]; simp)
    subst e'
    rw [hK (by rw [q]; simp)] at e; cases e)
  have hM:Mod K mg (hidT s₁.heap H):=⟨hKb,nsK hns,⟨mb,nsK hb,hbb⟩,let ⟨mc,h1,h2⟩:=hlim; ⟨mc,nsK h1,h2⟩⟩
  have e0:Env0 P w K mg (hidT s₁.heap H) callerA [] s₁ H:=⟨rfl,hM,fun b o e=>zUH e,Nat.le_of_eq (zQp _ _),trivial,fun b hb=>absurd (show b∈([]:List Addr) from hb) (by simp),hok,.of_eq hg⟩
  refine codeAny_mono ((F _ hKb (nsK hns)).run callerA [] s₁ H ⟨[.ref a],[]⟩ [.ref a] [.ref a] _ _ hr e0 (hbind s₁ (.ref a)) (.cons rfl .nil) (hsp H hO hS)) fun r s' h=>?_
  cases r with
  | error e=>exact (hCX H e s' h).elim
  | ok fl =>
   cases fl with
   | next=>exact False.elim h
   | brk=>exact False.elim h
   | cont=>exact False.elim h
   | ret u =>
    obtain ⟨v,H',os,bare,un,hok',r',q⟩:=h
    have q':v=.bl true:=q
    subst q'
    obtain rfl:u=Value.bool true:=r'
    refine ⟨rfl,OldK.of_keep fun b o e=>?_,os,bare⟩
    cases q:H b with
    | none=>exact un.keep b o e q (by intro z; exact absurd (show b∈([]:List Addr) from z) (by simp)) (by simp)
    | some u =>
     rcases hO b with z | ⟨ob,xs,z⟩
     ·rw [q] at z; cases z
     ·have z2:=un.frzs b ob _ z
      obtain ⟨e1,_⟩:=hok b _ z
      obtain ⟨e2,_⟩:=hok' b _ z2
      rw [e] at e1; cases e1
      exact e2
 cases hk:K.lookup a with
 | some o =>
  have e:=KX a o hk
  rw [ha] at e
  cases e
  refine core (fun _=>none) (fun _=>.inl rfl) (.inr ⟨_,vs.toArray,_,hk,rfl,rfl,rfl,by rw [qA8,lenV]; exact hl,by simpa using rv⟩) (fun b u z=>by have z':(none:Option HO)=some u:=z; cases z') (fun b z=>absurd rfl z) fun z=>absurd rfl z
 | none =>
  refine core (fun b=>if b=a then some (.frz { cls:=.type "list",data:=.seq vs.toArray } (.lst (ns.map V.int))) else none) (fun b=>?_) (.inl (.inr ⟨{ cls:=.type "list",data:=.seq vs.toArray },if_pos rfl⟩)) (fun b u z=>?_) (fun b z=>?_) fun _=>hk
  ·by_cases hb:b=a
   ·exact .inr ⟨_,_,if_pos hb⟩
   ·exact .inl (if_neg hb)
  ·by_cases hb:b=a
   ·have z':=(if_pos hb).symm.trans z
    cases z'
    subst hb
    exact ⟨ha,by rw [qA2]; exact hl,vs,_,rv,ha⟩
   ·have z':=(if_neg hb).symm.trans z
    cases z'
  ·by_cases hb:b=a
   ·exact hb
   ·exact absurd (if_neg hb) z
theorem walk_of {l:W.OpenLaw}{n k:Nat}{q:Program}{loose:List Str}{XP:(Str→Option Value)→Heap→Prop}{YP:World→Heap→Prop}{d:DefRec}{K:Params→W.Frag}{CX:World→CXT}{sp:World→Sp}{x:Str}
  (hn:l.most=some n) (hn2:n≤sizeLine) (hdf:d.params.defaults=[]) (hr:Room k callerA)
  (hY:∀ (w:World) (h:Heap),YP w h→(K w.params).In h)
  (F:∀ (w:World) (mg:Str→Option Value) (fa:Addr) (h:Heap),(K w.params).In h→h.Ns mainGlobals mg→mg d.name=some (.ref fa) →
   ∃ fd:FuncData,(∀ (s:Shared) (u:Value),BindsTo s fd ⟨[u],[]⟩ [(x,u)]) ∧
    ∀ base:Heap,(K w.params).In base→base.Ns mainGlobals mg→FnOk l.prog w (K w.params) mg base (CX w) k fa fd [x] (sp w))
  (hsp:∀ (w:World) (H:Hp) (a:Addr) (ns:List Int),ns.length≤n→Only H→SqL (K w.params) H a (ns.map V.int)→sp w [.ref a] H (fun v _=>v=.bl true) fun _ _ _=>False)
  (hCX:∀ (w:World) (H:Hp) (s:Shared) (e:Value) (s':Shared),CX w [] H s (fun _ _ _=>False) e s'→False) :
  W.WalkO q loose XP YP l.row.toRowW d [] (fun f vs=>PySem.call f vs):=by
 refine Att.attach_call hn hdf fun w s₀ s₁ mg mb fa o pm cd doc a vs ns G Y ho hd hcd hmg hobj hints hlen hg=>?_
 have KX:=hY w _ Y
 obtain ⟨fd,hb,hF⟩:=F w mg fa _ KX G.T.g hmg
 exact zSh KX G.T.g G.T.b G.T.builtins G.T.nolimit hg hobj hints (qC6 hlen hn2) hr hF hb (fun H hO hS=>hsp w H a ns hlen hO hS) fun H e s'=>hCX w H s₁ e s'
noncomputable def zDE (s:Stmt):Arguments:=match s with
 | .FunctionDef _ a _ _ _ _ _ _ _ _=>a
 | _=>{ posonlyargs:=[],args:=[],vararg:=none,kwonlyargs:=[],kw_defaults:=[],kwarg:=none,defaults:=[] }
noncomputable def zBl (s:Stmt):List Stmt:=match s with
 | .FunctionDef _ _ b _ _ _ _ _ _ _=>b
 | _=>[]
noncomputable def zA2 (s:Stmt):Scope:=match s with
 | .FunctionDef _ _ _ _ _ _ sc _ _ _=>sc
 | _=>{ kind:=.function,names:=[],isGenerator:=false,isCoroutine:=false }
noncomputable abbrev CX0:CXT:=fun _ _ _ _ _ _=>False
noncomputable abbrev E0:XK:=fun _ _ _=>False
theorem za0 {X:Cx}:zRe CX0 X E0:=fun _ _ _ _ _ _ _ h=>h.elim
structure Fun (K:W.Frag) (x qual:Str) (st:Stmt) (f:Addr) (fd:FuncData):Prop where
 ex:∃ (oc:Value) (od:Option Addr) (kV doc pm:Value) (an:Option Addr) (cdv ct:Value) (osl:Array (Option Value)),
  fd=W.fnOf x qual (zDE st) (zBl st) (zA2 st) .none kV doc pm an cdv ct∧K.lookup f=some ⟨oc,od,.func fd,osl⟩∧W.codeIn K cdv qual=true
 kp:W.keepIn K (.ref f)=true
section
variable {P:Program}{w:World}{K:W.Frag}{mg:Str→Option Value}{base:Heap}
theorem Fun.ok {x qual:Str}{st:Stmt}{f:Addr}{fd:FuncData}{N ps:List Str}{k:Nat}{sp:Sp} (F:Fun K x qual st f fd) (S:zJG N ps (zA2 st)) (len:∀ vs H Q E,sp vs H Q E→vs.length=ps.length)
  (hbody:∀ (cdv:Value) (A:Around) (outer:List Env) (s:Shared) (H:Hp) (vs:List V) (Q:VK) (E:XK),Room k (A.deeper (envOfC qual (zA2 st) s.heap.objs.size f cdv))→sp vs H Q E →
   ∃ t,PSs (cxOf CX0 P w K mg base N qual (zA2 st) f cdv A outer s H E).nox (zBl st) t∧t { nx:=fun _ H'=>Q .non H',rt:=Q } (start N vs) H):FnOk P w K mg base CX0 (k+1) f fd ps sp:=by
 obtain ⟨oc,od,kV,doc,pm,an,cdv,ct,osl,rfl,lk,hcd⟩:=F.ex
 refine zaF lk hcd S len fun A outer s H vs Q E hr hsp=>?_
 obtain ⟨t,h,q⟩:=hbody cdv A outer s H vs Q E hr hsp
 exact ⟨t,h.nox,q⟩
theorem Fun.binds {x qual:Str}{st:Stmt}{f:Addr}{fd:FuncData}{ps:List Str} (F:Fun K x qual st f fd)
  (h:∀ (kV doc pm:Value) (an:Option Addr) (cdv ct:Value) (us:List Value),us.length=ps.length→bindArgs (W.fnOf x qual (zDE st) (zBl st) (zA2 st) .none kV doc pm an cdv ct) ⟨us,[]⟩=pure (ps.zip us)):zJH K fd ps []:=by
 obtain ⟨oc,od,kV,doc,pm,an,cdv,ct,osl,rfl,lk,hcd⟩:=F.ex
 exact .all (h kV doc pm an cdv ct)
theorem zXY {x qual:Str}{st:Stmt}{f:Addr}{oc:Value}{od an:Option Addr}{osl:Array (Option Value)}{kV doc pm cdv ct:Value} (l:K.lookup f=some ⟨oc,od,.func (W.fnOf x qual (zDE st) (zBl st) (zA2 st) .none kV doc pm an cdv ct),osl⟩)
  (c:W.codeIn K cdv qual=true) (k:W.keepIn K (.ref f)=true):Fun K x qual st f (W.fnOf x qual (zDE st) (zBl st) (zA2 st) .none kV doc pm an cdv ct):=⟨⟨oc,od,kV,doc,pm,an,cdv,ct,osl,rfl,l,c⟩,k⟩
end
theorem zV0 {A:Around}{k:Nat} (hr:Room k A):A.units+1<cLine:=qG5 (Nat.add_le_add_left (by decide:1≤64) _) hr.units
theorem zJV {n:Nat} (h:n≤1000):n<sizeLine:=qG5 h (by decide)
def Same (H H':Hp):Prop:=∀ b o,H b=some o→H' b=some o
theorem Same.refl (H:Hp):Same H H:=fun _ _ h=>h
section
variable {κ:Type} [DecidableEq κ]
noncomputable def valV (kvs:List (κ × V)) (k:κ):Option V:=(kvs.find? fun kv=>decide (kv.1=k)).map (·.2)
noncomputable def putK (kvs:List (κ × V)) (k:κ) (v:V):List (κ × V) :=
 if (kvs.any fun kv=>decide (kv.1=k))=true then kvs.map (fun kv=>if kv.1=k then (kv.1,v) else kv) else kvs++[(k,v)]
theorem zGC {p:κ × V}{r:List (κ × V)}{k:κ} (e:p.1=k):valV (p::r) k=some p.2:=by simp [valV,qE3,e]
theorem zGD {p:κ × V}{r:List (κ × V)}{k:κ} (e:¬ p.1=k):valV (p::r) k=valV r k:=by simp [valV,qE3,e]
theorem zMB (k:κ):∀ kvs:List (κ × V),(kvs.any fun kv=>decide (kv.1=k))=(valV kvs k).isSome
 | []=>rfl
 | p::r=>by
  rw [qE9]
  by_cases e:p.1=k
  ·simp only [zGC e,decide_eq_true e,Bool.true_or,qP6]
  ·rw [zGD e,decide_eq_false e,Bool.false_or]; exact zMB k r
theorem zDA (kvs:List (κ × V)) (k:κ) (v:V):(putK kvs k v).length≤kvs.length+1:=by
 unfold putK
 split
 ·rw [qA2]; omega
 ·rw [qC4,qD0,qM0]; omega
theorem RelO.isSome_eq {o:Option V}{u:Option Value} (r:RelO o u):o.isSome=u.isSome:=by
 cases o with
 | none=>cases u with
  | none=>rfl
  | some _=>exact (show False from r).elim
 | some _=>cases u with
  | none=>exact (show False from r).elim
  | some _=>rfl
theorem KV.val {kvs:List (κ × V)}{vs:List (κ × Value)} (r:KV kvs vs) (k:κ):RelO (valV kvs k) (valueAt vs k):=by
 unfold KV at r
 induction r with
 | nil=>exact True.intro
 | @cons p q ps qs h t ih =>
  obtain ⟨h1,h2⟩:=h
  by_cases e:p.1=k
  ·have e':q.1=k:=h1.symm.trans e
   have b:valueAt (q::qs) k=some q.2:=by simp [valueAt,qE3,e']
   rw [zGC e,b]; exact h2
  ·have e':¬ q.1=k:=fun z=>e (h1.trans z)
   have b:valueAt (q::qs) k=valueAt qs k:=by simp [valueAt,qE3,e']
   rw [zGD e,b]; exact ih
theorem KV.any {kvs:List (κ × V)}{vs:List (κ × Value)} (r:KV kvs vs) (k:κ):(kvs.any fun kv=>decide (kv.1=k))=vs.any fun kv=>decide (kv.1=k):=by
 unfold KV at r
 induction r with
 | nil=>rfl
 | cons h t ih=>rw [qE9,qE9,ih,h.1]
theorem KV.repl {kvs:List (κ × V)}{vs:List (κ × Value)} (r:KV kvs vs) (k:κ) {y:V}{u:Value} (ry:RelV y u) :
  KV (kvs.map fun kv=>if kv.1=k then (kv.1,y) else kv) (vs.map fun kv=>if kv.1=k then (kv.1,u) else kv):=by
 unfold KV at r ⊢
 induction r with
 | nil=>exact .nil
 | @cons p q ps qs h t ih =>
  rw [qC5,qC5]
  refine .cons ?_ ih
  obtain ⟨h1,h2⟩:=h
  by_cases e:p.1=k
  ·rw [if_pos e,if_pos (h1.symm.trans e)]; exact ⟨h1,ry⟩
  ·rw [if_neg e,if_neg (fun z=>e (h1.trans z))]; exact ⟨h1,h2⟩
theorem KV.put {kvs:List (κ × V)}{vs:List (κ × Value)} (r:KV kvs vs) (k:κ) {y:V}{u:Value} (ry:RelV y u):KV (putK kvs k y) (stored vs k u):=by
 unfold putK stored
 rw [r.any k]
 by_cases e:(vs.any fun kv=>decide (kv.1=k))=true
 ·rw [if_pos e,if_pos e]; exact r.repl k ry
 ·rw [if_neg e,if_neg e]; exact Paired.snoc r ⟨rfl,ry⟩
theorem KV.length {kvs:List (κ × V)}{vs:List (κ × Value)} (r:KV kvs vs):kvs.length=vs.length:=Paired.length r
end
theorem zNY {P:Program}{w:World}{k:Key}{u:Value} (r:RelV (kV k) u):(zAS P w).is k u=true:=by
 cases k with
 | inl i=>obtain ⟨t,e⟩:=(show ∃ t,u=Value.int i t from r); subst e; exact zLG P w i t
 | inr x=>obtain ⟨t,e⟩:=(show ∃ t,u=Value.str x t from r); subst e; exact zLF P w x t
theorem zKr {P:Program}{w:World}:∀ {ks:List Key}{us:List Value},Vals (ks.map kV) us→ItemsAre (zAS P w) ks us
 | [],_,r=>by rw [qJ4] at r; cases r; exact .nil
 | k::ks,_,r=>by
  rw [qC5] at r
  cases r with
  | cons h t=>exact .cons (zNY h) (zKr t)
noncomputable abbrev KT (H:Hp):List (List Key × V)→List (List Key × Addr × Value)→Prop:=Paired fun p q=>p.1=q.1∧H q.2.1=some (.tup (p.1.map kV))∧RelV p.2 q.2.2
theorem KT.val {H:Hp}{kvs:List (List Key × V)}{xs:List (List Key × Addr × Value)} (r:KT H kvs xs) (k:List Key):RelO (valV kvs k) ((atKey xs k).map (·.2)):=by
 induction r with
 | nil=>exact True.intro
 | @cons p q ps qs h t ih =>
  obtain ⟨h1,_,h2⟩:=h
  by_cases e:p.1=k
  ·have e':q.1=k:=h1.symm.trans e
   have b:atKey (q::qs) k=some q.2:=by simp [atKey,qE3,e']
   rw [zGC e,b]; exact h2
  ·have e':¬ q.1=k:=fun z=>e (h1.trans z)
   have b:atKey (q::qs) k=atKey qs k:=by simp [atKey,qE3,e']
   rw [zGD e,b]; exact ih
theorem KT.repl {H:Hp}{kvs:List (List Key × V)}{xs:List (List Key × Addr × Value)} (r:KT H kvs xs) (k:List Key) {y:V}{u:Value} (ry:RelV y u) :
  KT H (kvs.map fun kv=>if kv.1=k then (kv.1,y) else kv) (xs.map (putAt k u)):=by
 induction r with
 | nil=>exact .nil
 | @cons p q ps qs h t ih =>
  rw [qC5,qC5]
  refine .cons ?_ ih
  obtain ⟨h1,h2,h3⟩:=h
  unfold putAt
  by_cases e:p.1=k
  ·rw [if_pos e,if_pos (h1.symm.trans e)]; exact ⟨h1,h2,ry⟩
  ·rw [if_neg e,if_neg (fun z=>e (h1.trans z))]; exact ⟨h1,h2,h3⟩
theorem KT.put {H:Hp}{kvs:List (List Key × V)}{xs:List (List Key × Addr × Value)} (r:KT H kvs xs) (k:List Key) {b:Addr}{y:V}{u:Value} (hb:H b=some (.tup (k.map kV))) (ry:RelV y u) :
  KT H (putK kvs k y) (storedH xs k b u):=by
 have e:(kvs.any fun kv=>decide (kv.1=k))=(atKey xs k).isSome:=by
  rw [zMB,(r.val k).isSome_eq,qN2]
 unfold putK storedH
 rw [e]
 by_cases q:(atKey xs k).isSome=true
 ·rw [if_pos q,if_pos q]; exact r.repl k ry
 ·rw [if_neg q,if_neg q]; exact Paired.snoc r ⟨rfl,hb,ry⟩
theorem KT.keeps {H H':Hp}{kvs:List (List Key × V)}{xs:List (List Key × Addr × Value)} (r:KT H kvs xs) (ht:∀ b ys,H b=some (.tup ys)→H' b=some (.tup ys)):KT H' kvs xs :=
 Paired.mapP r fun _ _ z=>⟨z.1,ht _ _ z.2.1,z.2.2⟩
section
variable {P:Program}{w:World}{H:Hp}{h:Heap}{a:Addr}
theorem zWE {u:HO} (ok:HOk P w H h) (e:Rd H a u):zCE P w H h a u:=e.ok ok
theorem zQE {kvs:List (Key × V)} (ok:HOk P w H h) (e:Rd H a (.dK kvs)):kvs.length≤sizeLine∧(a == sysModules)=false∧∃ vs,KV kvs vs∧h.DictOf (zAS P w) a vs :=
 show zCE P w H h a (.dK kvs) from zWE ok e
theorem zVb {kvs:List (Key × V)} (ok:HOk P w H h) (e:H a=some (.dK kvs)):kvs.length≤sizeLine∧(a == sysModules)=false∧∃ vs,KV kvs vs∧h.DictOf (zAS P w) a vs:=zQE ok (.inl e)
theorem zIz {ks:List Key} (ok:HOk P w H h) (e:H a=some (.tup (ks.map kV))):(tupleKind (zAS P w)).is h ks a:=by
 obtain ⟨_,its,r,o,h1,h2,n,h3⟩:=(show zCE P w H h a (.tup (ks.map kV)) from ok a _ e)
 exact ⟨o,its.toArray,n,h1,h2,h3,by simpa using zKr r⟩
theorem zQD {kvs:List (List Key × V)} (ok:HOk P w H h) (e:Rd H a (.dT kvs)):kvs.length≤sizeLine∧(a == sysModules)=false ∧
  ∃ xs,KT H kvs xs∧h.DictOfH (tupleKind (zAS P w)) a xs:=by
 obtain ⟨z,y,xs,r,o,es,ep,h1,h2,h3,h4,h5⟩:=(show zCE P w H h a (.dT kvs) from zWE ok e)
 refine ⟨z,y,xs,r,o,es,ep,h1,h2,h3,h4,fun x hx=>?_,h5⟩
 have all:∀ {l:List (List Key × V)}{m:List (List Key × Addr × Value)},KT H l m→∀ x∈m,(tupleKind (zAS P w)).is h x.1 x.2.1:=by
  intro l m q
  induction q with
  | nil=>intro x hx; exact nomatch hx
  | @cons p q ps qs hq t ih =>
   intro x hx
   rcases qB7.mp hx with e | hx
   ·subst e
    exact zIz ok (by rw [← hq.1]; exact hq.2.1)
   ·exact ih x hx
 exact all r x hx
theorem zaK {kvs:List (List Key × V)} (ok:HOk P w H h) (e:H a=some (.dT kvs)):kvs.length≤sizeLine∧(a == sysModules)=false ∧
  ∃ xs,KT H kvs xs∧h.DictOfH (tupleKind (zAS P w)) a xs:=zQD ok (.inl e)
end
def DGet (H:Hp) (a:Addr) (y:V) (r:Option V):Prop :=
 (∃ kvs k,Rd H a (.dK kvs)∧y=kV k∧r=valV kvs k)∨∃ kvs k b,Rd H a (.dT kvs)∧y=.ref b∧H b=some (.tup (k.map kV))∧r=valV kvs k
def DPut (H:Hp) (a:Addr) (y v:V) (H':Hp):Prop :=
 (∃ kvs k,H a=some (.dK kvs)∧y=kV k∧kvs.length<sizeLine∧H'=upd H a (.dK (putK kvs k v))) ∨
 ∃ kvs k b,H a=some (.dT kvs)∧y=.ref b∧H b=some (.tup (k.map kV))∧kvs.length<sizeLine∧H'=upd H a (.dT (putK kvs k v))
theorem DGet.k {H:Hp}{a:Addr}{kvs:List (Key × V)}{k:Key} (e:H a=some (.dK kvs)):DGet H a (kV k) (valV kvs k):=.inl ⟨kvs,k,.inl e,rfl,rfl⟩
theorem DGet.t {H:Hp}{a b:Addr}{kvs:List (List Key × V)}{k:List Key} (e:H a=some (.dT kvs)) (eb:H b=some (.tup (k.map kV))):DGet H a (.ref b) (valV kvs k):=.inr ⟨kvs,k,b,.inl e,rfl,eb,rfl⟩
theorem DPut.k {H:Hp}{a:Addr}{kvs:List (Key × V)}{k:Key}{v:V} (e:H a=some (.dK kvs)) (hl:kvs.length<sizeLine):DPut H a (kV k) v (upd H a (.dK (putK kvs k v))):=.inl ⟨kvs,k,e,rfl,hl,rfl⟩
section
variable {X:Cx}{pins:List (Addr × Obj)}{σ:St}{H:Hp}{s:Shared}{a:Addr}{y v:V}{u r:Value}{o:Option V}{A:Around}{E:Value→Shared→Prop}
theorem Inv.big (I:Inv X pins σ H s):sysModules<s.heap.objs.size:=by
 have h:mainGlobals<s.heap.objs.size:=(I.mod.glob.keeps I.bk).lt
 exact Nat.lt_trans (by decide) h
theorem zQJ {Q:Value→Shared→Prop} (hu:A.units+1<cLine) (I:Inv X pins σ H s) (g:DGet H a y (some v)) (ry:RelV y u) (h:∀ w' s',Inv X pins σ H s'→RelV v w'→Q w' s') :
  wpAny (model X.prog X.w) A (getItem (.ref a) u) Q E s:=by
 rcases g with ⟨kvs,k,e,ey,l⟩ | ⟨kvs,k,b,e,ey,eb,l⟩
 ·subst ey
  obtain ⟨z,hd,vs,rel,dd⟩:=zQE I.hok e
  obtain ⟨w',hw,rw'⟩:=RelO.some_of (v:=v) (o:=valueAt vs k) (by rw [l]; exact rel.val k)
  exact wpAny_getItem_of (zNY ry) dd.mapOf hw (h w' _ (I.tok _) rw')
 ·subst ey
  cases (show u=Value.ref b from ry)
  obtain ⟨z,hd,xs,rel,dd⟩:=zQD I.hok e
  obtain ⟨w',hw,rw'⟩:=RelO.some_of (v:=v) (o:=(atKey xs k).map (·.2)) (by rw [l]; exact rel.val k)
  obtain ⟨p,hp,hp2⟩:=qA1.mp hw
  refine wpAny_getItem_heap (tupleKind_room_in1 hu) (zIz I.hok eb) dd hp ?_
  rw [hp2]
  exact h w' _ (I.tok _) rw'
theorem d_in {Q:Value→Shared→Prop} (hu:A.units+1<cLine) (I:Inv X pins σ H s) (g:DGet H a y o) (ry:RelV y u) (h:∀ s',Inv X pins σ H s'→Q (.bool o.isSome) s') :
  wpAny (model X.prog X.w) A (compareOp .In u (.ref a)) Q E s:=by
 rcases g with ⟨kvs,k,e,ey,l⟩ | ⟨kvs,k,b,e,ey,eb,l⟩
 ·subst ey
  obtain ⟨z,hd,vs,rel,dd⟩:=zQE I.hok e
  refine wpAny_in_of (zNY ry) hd dd.mapOf ?_
  rw [← (rel.val k).isSome_eq,← l]
  exact h _ (I.tok _)
 ·subst ey
  cases (show u=Value.ref b from ry)
  obtain ⟨z,hd,xs,rel,dd⟩:=zQD I.hok e
  refine wpAny_in_heap (tupleKind_room_in1 hu) (zIz I.hok eb) hd dd ?_
  have q:=(rel.val k).isSome_eq
  rw [qN2] at q
  rw [← q,← l]
  exact h _ (I.tok _)
theorem zVc {Q:Value→Shared→Prop} (hu:A.units+1<cLine) (I:Inv X pins σ H s) (g:DGet H a y o) (ry:RelV y u) (h:∀ s',Inv X pins σ H s'→Q (.bool (!o.isSome)) s') :
  wpAny (model X.prog X.w) A (compareOp .NotIn u (.ref a)) Q E s:=by
 rcases g with ⟨kvs,k,e,ey,l⟩ | ⟨kvs,k,b,e,ey,eb,l⟩
 ·subst ey
  obtain ⟨z,hd,vs,rel,dd⟩:=zQE I.hok e
  refine wpAny_notIn_of (zNY ry) hd dd.mapOf ?_
  rw [← (rel.val k).isSome_eq,← l]
  exact h _ (I.tok _)
 ·subst ey
  cases (show u=Value.ref b from ry)
  obtain ⟨z,hd,xs,rel,dd⟩:=zQD I.hok e
  refine wpAny_notIn_heap (tupleKind_room_in1 hu) (zIz I.hok eb) hd dd ?_
  have q:=(rel.val k).isSome_eq
  rw [qN2] at q
  rw [← q,← l]
  exact h _ (I.tok _)
theorem zM5 {h':Heap}{t':Nat}{ob:HO} (I:Inv X pins σ H s) (mu:Mut (H a)) (hs:qE2 a s.heap h') (he:∃ q,h'.get? a=some q) (new:zCE X.prog X.w (upd H a ob) h' a ob) :
  Inv X pins σ (upd H a ob) { s with heap:=h',toks:=t' } :=
 I.write (x:=a) (e:=a) mu (.inl rfl) (fun b q hb z=>(hs.2 b hb).trans z) he new
theorem zTj {P:Program}{w:World}{H':Hp}{h':Heap}{kvs:List (Key × V)}{vs:List (Key × Value)} (z:kvs.length≤sizeLine) (hd:(a == sysModules)=false) (rel:KV kvs vs) (dd:h'.DictOf (zAS P w) a vs) :
  zCE P w H' h' a (.dK kvs):=⟨z,hd,vs,rel,dd⟩
theorem zQI {H':Hp}{Q:Unit→Shared→Prop} (hu:A.units+1<cLine) (I:Inv X pins σ H s) (g:DPut H a y v H') (ry:RelV y u) (rv:RelV v r) (h:∀ s',Inv X pins σ H' s'→Q () s') :
  wpAny (model X.prog X.w) A (setItem (.ref a) u r) Q E s:=by
 rcases g with ⟨kvs,k,e,ey,l,eH⟩ | ⟨kvs,k,b,e,ey,eb,l,eH⟩
 ·subst ey eH
  obtain ⟨z,hd,vs,rel,dd⟩:=zVb I.hok e
  have hz:vs.length≤sizeLine:=by rw [← rel.length]; exact z
  have hl:(putK kvs k v).length≤sizeLine:=by have:=zDA kvs k v; omega
  refine wpAny_setItem_pairs (hsz:=hz) (zNY ry) dd fun h' dd' hs=>h _ ?_
  have he:∃ q,h'.get? a=some q:=let ⟨q,_,_,hq,_⟩:=dd'; ⟨q,hq⟩
  exact zM5 I (by rw [e]; exact True.intro) hs he (zTj hl hd (rel.put k rv) dd')
 ·subst ey eH
  cases (show u=Value.ref b from ry)
  obtain ⟨z,hd,xs,rel,dd⟩:=zaK I.hok e
  have hz:xs.length≤sizeLine:=by rw [← Paired.length rel]; exact z
  have hl:(putK kvs k v).length≤sizeLine:=by have:=zDA kvs k v; omega
  refine wpAny_setItem_heap (hsz:=hz) (tupleKind_room_in1 hu) (zIz I.hok eb) dd fun h' dd' hs=>h _ ?_
  obtain ⟨q,es,ep,hq,h2,h3,h4,_,h5⟩:=dd'
  refine zM5 I (by rw [e]; exact True.intro) hs ⟨q,hq⟩ ⟨hl,hd,_,(rel.put k eb rv).keeps fun c ys ec=>?_,q,es,ep,hq,h2,h3,h4,h5⟩
  rw [zAi (zat ec e (fun z=>nomatch z))]
  exact ec
end
theorem zM3 {X:Cx}{pins:List (Addr × Obj)}{σ:St}{H:Hp}{s:Shared}{a:Addr}{y:V}{o:Option V} (I:Inv X pins σ H s) (g:DGet H a y o):s.TypeIs (.ref a) "dict":=by
 rcases g with ⟨kvs,k,e,_,_⟩ | ⟨kvs,k,b,e,_,_,_⟩
 ·obtain ⟨_,_,vs,_,dd⟩:=zQE I.hok e
  exact dd.typeIs
 ·obtain ⟨_,_,xs,_,dd⟩:=zQD I.hok e
  exact dd.typeIs
theorem zNi {P:Program}{w:World}{H:Hp} (h:Heap) (hb:sysModules<h.objs.size):zCE P w H (h.push { cls:=.type "dict",data:=.dict #[] }) h.objs.size (.dK []) :=
 ⟨qJ2 _,beq_eq_false_iff_ne.mpr (Ne.symm (qC3 hb)),[],.nil,Heap.DictOf.new h⟩
noncomputable def zW4:TE:=fun _ H Q=>∀ p,H p=none→Q (.ref p) (upd H p (.dK []))
section
variable {X:Cx}{pos:Pos}
theorem zRY:PE X (.Dict [] [] pos) zW4:=fun pins s σ H Q I h =>
 wpAny_Dict_empty ⟨.ref s.heap.objs.size,_,I.laid (a:=s.heap.objs.size) (o:=.dK []) (t':=s.toks) (fun _ _ q=>qA4 _ q) (qB0 _) (zNi s.heap I.big),rfl,h _ (I.hok.fresh (qB0 _))⟩
end
noncomputable def zP3:List (TE × TE)→St→Hp→(List (V × V)→Hp→Prop)→Prop
 | [],_,H,Q=>Q [] H
 | (tk,tv)::r,σ,H,Q=>tk σ H fun x H1=>tv σ H1 fun y H2=>zP3 r σ H2 fun ps H3=>Q ((x,y)::ps) H3
noncomputable abbrev VV:List (V × V)→List (Value × Value)→Prop:=Paired fun p q=>RelV p.1 q.1∧RelV p.2 q.2
def PPs (X:Cx) (pos:Pos) (keys:List (Option Expr)) (values:List Expr) (trs:List (TE × TE)):Prop :=
 ∀ (pins:List (Addr × Obj)) (s:Shared) (σ:St) (H:Hp) (Q:List (V × V)→Hp→Prop),Inv X pins σ H s→zP3 trs σ H Q →
  wpAny (model X.prog X.w) X.A (evalPairs (pairTrees keys values X.env pos)) (fun vs s'=>∃ ps H',Inv X pins σ H' s'∧VV ps vs∧Q ps H') X.xe s
theorem zUo {X:Cx}{pos:Pos}:PPs X pos [] [] []:=fun pins s σ H Q I h=>pairTrees_nil_walk ⟨[],H,I,.nil,h⟩
theorem zRT {X:Cx}{pos:Pos}{k v:Expr}{ks:List (Option Expr)}{vs:List Expr}{tk tv:TE}{trs:List (TE × TE)} (hk:PE X k tk) (hv:PE X v tv) (hr:PPs X pos ks vs trs) :
  PPs X pos (some k::ks) (v::vs) ((tk,tv)::trs):=fun pins s σ H Q I h =>
 pairTrees_cons_walk (thn (hk pins s σ H _ I h) fun u s1 ⟨x,H1,I1,rx,q1⟩=>thn (hv pins s1 σ H1 _ I1 q1) fun w2 s2 ⟨y,H2,I2,ry,q2⟩ =>
  thn (hr pins s2 σ H2 _ I2 q2) fun ws s3 ⟨ps,H3,I3,rel,q3⟩=>⟨(x,y)::ps,H3,I3,.cons ⟨rx,ry⟩ rel,q3⟩)
noncomputable def zHa (kvs more:List (Key × V)):List (Key × V):=more.foldl (fun acc kv=>putK acc kv.1 kv.2) kvs
theorem KV.merge:∀ {more:List (Key × V)}{rs:List (Key × Value)}{kvs:List (Key × V)}{vs:List (Key × Value)},KV more rs→KV kvs vs→KV (zHa kvs more) (merged vs rs):=by
 intro more rs kvs vs r
 unfold KV at r
 induction r generalizing kvs vs with
 | nil=>intro q; exact q
 | @cons p q ps qs h t ih =>
  intro r0
  have e:KV (putK kvs p.1 p.2) (stored vs q.1 q.2):=by
   have:=r0.put p.1 h.2
   rw [← h.1]; exact this
  exact ih e
theorem zFe:∀ (more kvs:List (Key × V)),(zHa kvs more).length≤kvs.length+more.length
 | [],kvs=>by show kvs.length≤kvs.length+0; omega
 | p::r,kvs=>by
  have h1:=zFe r (putK kvs p.1 p.2)
  have h2:=zDA kvs p.1 p.2
  show (zHa (putK kvs p.1 p.2) r).length≤_
  rw [qD0]; omega
theorem zIM {P:Program}{w:World}:∀ {kvs:List (Key × V)}{ws:List (Value × Value)},VV (kvs.map fun kv=>(kV kv.1,kv.2)) ws→∃ rs,Carries (zAS P w) ws rs∧KV kvs rs
 | [],_,r=>by rw [qJ4] at r; cases r; exact ⟨[],True.intro,.nil⟩
 | p::kvs,_,r=>by
  rw [qC5] at r
  cases r with
  | @cons a b as bs h t =>
   obtain ⟨rs,c,q⟩:=zIM (P:=P) (w:=w) t
   obtain ⟨b1,b2⟩:=b
   exact ⟨(p.1,b2)::rs,⟨zNY h.1,rfl,c⟩,.cons ⟨rfl,h.2⟩ q⟩
noncomputable def zZl (trs:List (TE × TE)):TE:=fun σ H Q=>∀ p,H p=none→zP3 trs σ (upd H p (.dK [])) fun ps H2=>H2 p=some (.dK [])∧∃ kvs:List (Key × V),ps=kvs.map (fun kv=>(kV kv.1,kv.2))∧kvs.length≤15∧Q (.ref p) (upd H2 p (.dK (zHa [] kvs)))
theorem zUu {X:Cx}{pos:Pos}{keys:List (Option Expr)}{values:List Expr}{trs:List (TE × TE)} (h:PPs X pos keys values trs) (hall:keys.all (·.isSome)=true) (hl:keys.length=values.length) (h0:keys≠[])
  (h15:keys.length≤15):PE X (.Dict keys values pos) (zZl trs):=by
 intro pins s σ H Q I q
 have hn:=I.hok.fresh (qB0 s.heap.objs.size)
 have I1:=I.laid (a:=s.heap.objs.size) (o:=.dK []) (h':=s.heap.push { cls:=.type "dict",data:=.dict #[] }) (t':=s.toks) (fun _ _ q=>qA4 _ q) (qB0 _) (zNi s.heap I.big)
 refine wpAny_Dict_walk (knd:=zAS X.prog X.w) hall hl h0 h15 (thn (h pins _ σ _ _ I1 (q _ hn)) fun ws s2 ⟨ps,H2,I2,rel,e,kvs,ep,lk,q2⟩=>?_)
 subst ep
 obtain ⟨rs,c,rk⟩:=zIM (P:=X.prog) (w:=X.w) rel
 obtain ⟨z,hd,vs0,r0,dd⟩:=zVb I2.hok e
 cases r0
 refine ⟨rs,c,dd,fun h' dd' hs=>⟨.ref s.heap.objs.size,_,?_,rfl,q2⟩⟩
 have hz:(zHa [] kvs).length≤sizeLine:=by
  have h1:=zFe kvs []
  rw [qM0] at h1
  rw [sizeLine_eq]; omega
 have he:∃ q,h'.get? s.heap.objs.size=some q:=let ⟨q,_,_,hq,_⟩:=dd'; ⟨q,hq⟩
 exact zM5 I2 (by rw [e]; exact True.intro) hs he (zTj hz hd (rk.merge .nil) dd')
def zLc (st st2:St):Prop:=st.length=st2.length∧∀ (i:Nat) v,st[i]?=some (some v)→st2[i]?=some (some v)
noncomputable def zCa (X:Cx) (scope:Scope) (N:List Str) (cl:List (Str × Addr)) (s:Shared) (H:Hp) (C:Addr) (ex:List Addr):Cx where
 prog:=X.prog
 w:=X.w
 K:=X.K
 mg:=X.mg
 base:=X.base
 A:=X.A
 N:=N
 s₀:=s
 H₀:=H
 env:=compEnvC scope cl C X.env
 outer:=X.stack
 stack:=X.stack
 ex:=ex
 fn:=fun x=>decide ((x,NameKind.cell)∈scope.names)
 calm:=X.calm
 pn:=[]
 xe:=fun _ _=>False
noncomputable def clOf (env:Env):List (Str × NameKind)→List (Str × Addr)→List (Str × Addr)
 | [],acc=>acc
 | (n,k)::r,acc=>if k == .free then (match env.cells.lookup n with | some c=>clOf env r ((n,c)::acc) | none=>clOf env r acc) else clOf env r acc
theorem zGJ {env:Env}:∀ (ns:List (Str × NameKind)) (acc:List (Str × Addr)),(∀ x c,acc.lookup x=some c→env.cells.lookup x=some c)→∀ x c,(clOf env ns acc).lookup x=some c→env.cells.lookup x=some c
 | [],_,h=>h
 | (n,k)::r,acc,h=>by
  unfold clOf
  split
  ·split
   ·rename_i c hc
    refine zGJ r _ fun x d e=>?_
    rw [qC9] at e
    cases hx:x == n with
    | true =>
     rw [hx] at e
     have:x=n:=by simpa using hx
     subst this
     cases e
     exact hc
    | false =>
     rw [hx] at e
     exact h x d e
   ·exact zGJ r _ h
  ·exact zGJ r _ h
theorem zFl {env:Env}:∀ (ns:List (Str × NameKind)) (acc:List (Str × Addr)) (x:Str),((∃ c,acc.lookup x=some c)∨((x,NameKind.free)∈ns∧∃ c,env.cells.lookup x=some c))→∃ c,(clOf env ns acc).lookup x=some c
 | [],acc,x,h=>by
  rcases h with h | ⟨h,_⟩
  ·exact h
  ·cases h
 | (n,k)::r,acc,x,h=>by
  unfold clOf
  split
  ·rename_i hk
   split
   ·rename_i c hc
    refine zFl r _ x ?_
    by_cases hx:x=n
    ·subst hx
     exact .inl ⟨c,by rw [qC9]; simp⟩
    ·have hb:(x == n)=false:=by simpa using hx
     rcases h with ⟨d,h⟩ | ⟨h,d⟩
     ·exact .inl ⟨d,by rw [qC9,hb]; exact h⟩
     ·rcases qB7.mp h with h | h
      ·cases h; exact absurd rfl hx
      ·exact .inr ⟨h,d⟩
   ·rename_i hc
    refine zFl r _ x ?_
    rcases h with h | ⟨h,d,hd⟩
    ·exact .inl h
    ·rcases qB7.mp h with h | h
     ·cases h
      rw [hc] at hd; cases hd
     ·exact .inr ⟨h,d,hd⟩
  ·rename_i hk
   refine zFl r _ x ?_
   rcases h with h | ⟨h,d⟩
   ·exact .inl h
   ·rcases qB7.mp h with h | h
    ·cases h
     exact absurd rfl hk
    ·exact .inr ⟨h,d⟩
theorem zQX {env:Env}{x:Str}{c:Addr} (h:env.cells.lookup x=some c):cellOf env x=pure c:=by
 unfold cellOf
 rw [h]
theorem zFX {env:Env}:∀ (ns:List (Str × NameKind)) (acc:List (Str × Addr)),(∀ x,(x,NameKind.free)∈ns→∃ c,env.cells.lookup x=some c) →
  (forIn ns acc fun (x:Str × NameKind) (r:List (Str × Addr))=>(match x with
   | (name,kind)=>if kind == NameKind.free then (do let c ← cellOf env name; pure (ForInStep.yield ((name,c)::r))) else pure (ForInStep.yield r):Sem (ForInStep (List (Str × Addr)))))=pure (clOf env ns acc)
 | [],acc,_=>rfl
 | (n,k)::r,acc,h=>by
  rw [qO2]
  unfold clOf
  have hr:∀ x,(x,NameKind.free)∈r→∃ c,env.cells.lookup x=some c:=fun x hx=>h x (qD6 _ hx)
  by_cases hk:k=.free
  ·subst hk
   obtain ⟨c,hc⟩:=h n (qF1 ..)
   dsimp only
   rw [hc,zQX hc]
   simp only [beq_self_eq_true,if_true,pure_bind]
   exact zFX r _ hr
  ·have hb:(k == NameKind.free)=false:=by simpa using hk
   simp only [hb,qF2,if_false,pure_bind]
   exact zFX r _ hr
theorem zFk {scope:Scope}{env:Env} (h:∀ x,(x,NameKind.free)∈scope.names→∃ c,env.cells.lookup x=some c):closureFor scope env=pure (clOf env scope.names []):=by
 unfold closureFor
 have q:=zFX (env:=env) scope.names [] h
 simp only [bind_pure]
 refine Eq.trans ?_ q
 congr 1
theorem zEQ {ns:List (Str × NameKind)}{x:Str}{k:NameKind} (h:ns.lookup x=some k):(x,k)∈ns:=by
 induction ns with
 | nil=>cases h
 | cons a r ih =>
  obtain ⟨n,k'⟩:=a
  rw [qC9] at h
  cases hx:x == n with
  | true =>
   rw [hx] at h
   have e:x=n:=by simpa using hx
   subst e
   cases h
   exact qF1 ..
  | false =>
   rw [hx] at h
   exact qD6 _ (ih h)
theorem zGY {scope:Scope}{env:Env}{x:Str}{k:NameKind} (h:(relabel scope env).names.lookup x=some k) (hc:k=.cell∨k=.free):(x,NameKind.free)∈scope.names∨(x,NameKind.cell)∈scope.names:=by
 have m:=zEQ h
 obtain ⟨⟨n,k'⟩,hm,e⟩:=qA9.mp m
 dsimp only at e
 split at e
 ·rename_i hq
  cases e
  have:k'=.free:=by
   simp only [qC7,beq_iff_eq] at hq
   exact hq.1.1
  subst this
  exact .inl hm
 ·cases e
  rcases hc with rfl | rfl
  ·exact .inr hm
  ·exact .inl hm
theorem zCi:∀ (ns:List (Str × NameKind)) (h:Heap) (acc:List (Str × Addr)) {x:Str}{c:Addr},(cellsFrom h.objs.size ns acc).lookup x=some c →
  ((x,NameKind.cell)∈ns∧h.objs.size≤c∧(pushCells h ns).IsCell c none)∨((x,NameKind.cell)∉ns∧acc.lookup x=some c)
 | [],h,acc,x,c,e=>.inr ⟨by simp,e⟩
 | (n,k)::r,h,acc,x,c,e=>by
  unfold cellsFrom at e
  unfold pushCells
  by_cases hk:(k == NameKind.cell)=true
  ·rw [if_pos hk] at e ⊢
   have hk':k=.cell:=by simpa using hk
   rw [← qF0 h { cls:=.type "cell",data:=.cell none }] at e
   rcases zCi r _ _ e with ⟨q1,q2,q3⟩ | ⟨q1,q2⟩
   ·exact .inl ⟨qD6 _ q1,by rw [qF0] at q2; omega,q3⟩
   ·rw [qC9] at q2
    cases hx:x == n with
    | true =>
     rw [hx] at q2
     cases q2
     have:x=n:=by simpa using hx
     subst this
     subst hk'
     exact .inl ⟨qF1 ..,qB0 _,_,pushCells_keeps _ _ _ _ (qB4 _ rfl),rfl⟩
    | false =>
     rw [hx] at q2
     refine .inr ⟨fun z=>?_,q2⟩
     rcases qB7.mp z with z | z
     ·cases z; simp at hx
     ·exact q1 z
  ·rw [if_neg hk] at e ⊢
   rcases zCi r h acc e with ⟨q1,q2,q3⟩ | ⟨q1,q2⟩
   ·exact .inl ⟨qD6 _ q1,q2,q3⟩
   ·refine .inr ⟨fun z=>?_,q2⟩
    rcases qB7.mp z with z | z
    ·cases z; exact hk rfl
    ·exact q1 z
theorem zHF:∀ (ns:List (Str × NameKind)) (n:Nat) (acc:List (Str × Addr)),(∀ x c,acc.lookup x=some c→c<n)→(∀ x y c,acc.lookup x=some c→acc.lookup y=some c→x=y) →
  ∀ x y c,(cellsFrom n ns acc).lookup x=some c→(cellsFrom n ns acc).lookup y=some c→x=y
 | [],n,acc,hb,hi=>hi
 | (m,k)::r,n,acc,hb,hi=>by
  unfold cellsFrom
  split
  ·refine zHF r (n+1) _ (fun x c e=>?_) fun x y c e1 e2=>?_
   ·rw [qC9] at e
    cases hx:x == m with
    | true=>rw [hx] at e; cases e; exact qL1 _
    | false=>rw [hx] at e; exact qG0 (hb x c e)
   ·rw [qC9] at e1 e2
    cases hx:x == m with
    | true =>
     rw [hx] at e1
     cases e1
     cases hy:y == m with
     | true=>rw [show x=m by simpa using hx,show y=m by simpa using hy]
     | false=>rw [hy] at e2; exact absurd (hb y _ e2) (qG3 _)
    | false =>
     rw [hx] at e1
     cases hy:y == m with
     | true=>rw [hy] at e2; cases e2; exact absurd (hb x _ e1) (qG3 _)
     | false=>rw [hy] at e2; exact hi x y c e1 e2
  ·exact zHF r n acc hb hi
theorem zEw:∀ (ns:List (Str × NameKind)) (n:Nat) (acc:List (Str × Addr)) {x:Str},((x,NameKind.cell)∈ns∨∃ c,acc.lookup x=some c)→∃ c,(cellsFrom n ns acc).lookup x=some c
 | [],n,acc,x,h=>by
  rcases h with h | h
  ·cases h
  ·exact h
 | (m,k)::r,n,acc,x,h=>by
  unfold cellsFrom
  split
  ·refine zEw r _ _ ?_
   by_cases hx:x=m
   ·subst hx
    exact .inr ⟨n,by rw [qC9]; simp⟩
   ·have hb:(x == m)=false:=by simpa using hx
    rcases h with h | ⟨c,h⟩
    ·rcases qB7.mp h with h | h
     ·cases h; exact absurd rfl hx
     ·exact .inl h
    ·exact .inr ⟨c,by rw [qC9,hb]; exact h⟩
  ·rename_i hk
   refine zEw r _ _ ?_
   rcases h with h | h
   ·rcases qB7.mp h with h | h
    ·cases h; exact absurd rfl hk
    ·exact .inl h
   ·exact .inr h
theorem zHX {M:Model}{A:Around}{E:Value→Shared→Prop}{s:Shared}{scope:Scope}{globals:Addr}{closure:List (Str × Addr)}{qual:Str}{outer:Env}{Q:Env→Shared→Prop}
  (hQ:Q (newEnv scope s.heap.objs.size globals (cellsFrom (s.heap.push { cls:=.type "dict",data:=.dict #[] }).objs.size scope.names closure) qual none .none (some outer) builtinsNs) { s with heap:=pushCells (s.heap.push { cls:=.type "dict",data:=.dict #[] }) scope.names }) :
  wpAny M A (newFunctionEnv scope globals closure [] qual none .none (some outer)) Q E s:=by
 simp only [newFunctionEnv,qP6,if_true]
 refine wpAny_bind (wpAny_alloc ?_)
 refine wpAny_bind (wpAny_layCells _ (fun name kind cells=>by cases hkc:kind == NameKind.cell <;> simp [hkc]) _ _ _ _ ?_)
 rw [qO7]
 exact wpAny_bind (wpAny_pure (wpAny_pure hQ))
section
variable {X:Cx}{pins:List (Addr × Obj)}{σ:St}{H:Hp}{s:Shared}{scope:Scope}{N:List Str}{C:Addr}{ex:List Addr}
structure zOB (X:Cx) (scope:Scope) (N:List Str) (k:Nat) (js:List Nat):Prop where
 calm:X.calm=true
 kind:scope.kind=.function
 cell:∀ x,(x,NameKind.cell)∈scope.names→scope.names.lookup x=some .cell
 free:∀ x,(x,NameKind.free)∈scope.names→(X.env.kindOf x=some .cell∨X.env.kindOf x=some .free)
 names:∀ x∈scope.names,x.2=.local→scope.names.lookup x.1=some .local
 len:N.length=k+js.length
 js:∀ i j,js[i]?=some j→∃ x,N[k+i]?=some x∧X.N[j]?=some x∧scope.names.lookup x=some .free∧Vis X.env.scope x
theorem zKP {env:Env}{ns:List (Str × NameKind)}{x:Str}{c:Addr} (h:(clOf env ns []).lookup x=some c):env.cells.lookup x=some c:=zGJ _ _ (fun _ _ z=>by cases z) x c h
theorem Inv.compOk (I:Inv X pins σ H s) (hk:scope.kind=.function) (hf:∀ x,(x,NameKind.free)∈scope.names→∃ c,X.env.cells.lookup x=some c) {h:Heap} (hh:h.objs.size=C+1) (hC:s.heap.objs.size≤C) (hex:∀ b∈ex,FpOk X pins H b) (hxs:∀ b∈ex,b<s.heap.objs.size) :
  (zCa X scope N (cellsFrom h.objs.size scope.names (clOf X.env scope.names [])) s H C ex).Ok where
 mod:=I.ok.mod
 kind:=hk
 glob:=I.ok.glob
 blt:=I.ok.blt
 above:=hC
 inj:=zHF _ _ _ (fun x c e=>by
  obtain ⟨v,q⟩:=I.cell x c (zKP e)
  rw [hh]; exact qG0 (qB8 q.lt hC)) fun x y c e1 e2=>I.ok.inj x y c (zKP e1) (zKP e2)
 has:=fun x h=>by
  have m:=zGY (scope:=scope) (env:=X.env) (x:=x) (k:=.cell)
  have m2:=zGY (scope:=scope) (env:=X.env) (x:=x) (k:=.free)
  have q:(x,NameKind.free)∈scope.names∨(x,NameKind.cell)∈scope.names:=by
   rcases h with h | h
   ·exact m h (.inl rfl)
   ·exact m2 h (.inr rfl)
  refine zEw _ _ _ ?_
  rcases q with q | q
  ·exact .inr (zFl _ _ x (.inr ⟨q,hf x q⟩))
  ·exact .inl q
 cab:=fun x c h e=>by
  rcases zCi _ _ _ e with ⟨_,q,_⟩ | ⟨q,_⟩
  ·show s.heap.objs.size≤c; omega
  ·exact absurd (of_decide_eq_true h) q
 hd:=I.ok.hd
 frames:=I.ok.frames
 stk:=.inl rfl
 exf:=fun b hb=>⟨fun z=>by
   have z':b=C:=z
   exact qG3 _ (qB8 (hxs b hb) (by rw [z']; exact hC)),fun x c e=>by
   rcases zCi _ _ _ e with ⟨_,q,_⟩ | ⟨_,q⟩
   ·exact qH2 (qB8 (hxs b hb) (qC6 hC (qH0 (qB8 (by rw [hh]; exact qL1 C) q))))
   ·exact (hex b hb).2.2.2.2.1 x c (zKP q)⟩
 bs:=I.bs
 bsz:=qC6 I.ok.bsz I.sz
 noex:=fun b o e hb=>by
  rcases (hex b hb).2.2.2.1 with z | z
  ·exact I.ok.noex b o e z
  ·exact qG3 _ (qB8 (qB1 e) (qC6 I.ok.bsz z))
 exfs:=fun b hb z=>by
  rcases qB7.mp (I.stkSub b z) with q | q
  ·exact (hex b hb).2.1 q
  ·exact (hex b hb).2.2.1 q
 funs:=I.stack
 frf:=I.stkFree
theorem zM6 {prog:Program}{w:World}{A:Around}{R:Result→Shared→Prop}{elt target iter:Expr}{ifs:List Expr}{scope:Scope}{pos:Pos}{it acc:Value}{env:Env}{s:Shared} (J:Nat→Shared→Prop)
  (turn:∀ n s,J n s→wpAny (model prog w) A (pyNext it) (fun r s1=>match r with
   | none=>R (.ok .next) s1
   | some v=>wpAny (model prog w) A (letOwnedTupleGo target it v) (fun _ s1'=>wpAny (model prog w) A (assign target env v) (fun _ s2 =>
     wpAny (model prog w) A (forIn ifs true fun c r=>if r=true then do let ok ← isTrue c env (eval c env); pure (ForInStep.yield ok) else pure (ForInStep.yield r)) (fun ok s3 =>
      if ok=true then wpAny (model prog w) A (eval elt env) (fun x s4 =>
       wpAny (model prog w) A (call (.builtin "list.append") [acc,x]) (fun _ s5=>∃ m,m<n∧J m s5) (notedBy (model prog w) A env fun e s'=>R (.error e) s') s4) (notedBy (model prog w) A env fun e s'=>R (.error e) s') s3
      else ∃ m,m<n∧J m s3) (notedBy (model prog w) A env fun e s'=>R (.error e) s') s2) (notedBy (model prog w) A env fun e s'=>R (.error e) s') s1') (notedBy (model prog w) A env fun e s'=>R (.error e) s') s1) (notedBy (model prog w) A env fun e s'=>R (.error e) s') s)
  (n:Nat) (h:J n s) :
  codeAny (model prog w) A (.compLoop (.ListComp elt [⟨target,iter,ifs,0⟩] scope pos) 0 it acc env) R s:=by
 refine codeAny_loop rfl J (fun n s hI=>?_) n h
 show wpAny _ A ((compTurn (.ListComp elt [⟨target,iter,ifs,0⟩] scope pos) 0 it acc env).onRaise (fun x=>do noteFrame x env; theTreesLotGoes x)) _ _ s
 refine wpAny_noted ?_
 rw [compTurn_list]
 refine wpAny_bind (wpAny_standAt (wpAny_bind (wpAny_mono (turn n s hI) (fun r s1 h1=>?_) fun _ _ h'=>h')))
 cases r with
 | none=>exact wpAny_pure h1
 | some v =>
  refine wpAny_bind (wpAny_mono h1 (fun _ s1' h1'=>?_) fun _ _ h'=>h')
  refine wpAny_bind (wpAny_mono h1' (fun _ s2 h2=>wpAny_bind (wpAny_mono h2 (fun ok s3 h3=>?_) fun _ _ h'=>h')) fun _ _ h'=>h')
  cases ok with
  | false=>exact wpAny_pure ⟨rfl,h3⟩
  | true =>
   exact wpAny_bind (wpAny_bind (wpAny_mono h3 (fun x s4 h4=>wpAny_bind (wpAny_mono h4 (fun _ s5 h5=>wpAny_pure (wpAny_pure ⟨rfl,h5⟩)) fun _ _ h'=>h')) fun _ _ h'=>h'))
def PTs (X:Cx) (ifs:List Expr) (t:TT):Prop :=
 ∀ (pins:List (Addr × Obj)) (s:Shared) (σ:St) (H:Hp) (Q:Bool→Hp→Prop),Inv X pins σ H s→t σ H Q →
  wpAny (model X.prog X.w) X.A (forIn ifs true fun c r=>if r=true then do let ok ← isTrue c X.env (eval c X.env); pure (ForInStep.yield ok) else pure (ForInStep.yield r)) (TP X pins σ Q) X.xe s
noncomputable def tYes:TT:=fun _ H Q=>Q true H
theorem zUc {X:Cx}:PTs X [] tYes:=fun pins s σ H Q I h=>wpAny_tests_nil ⟨H,I,h⟩
theorem zUb {X:Cx}{c:Expr}{t:TT} (h:PT X c t):PTs X [c] t:=fun pins s σ H Q I hw=>wpAny_tests_one (h pins s σ H Q I hw)
def zVH (J:It) (D:Addr) (W:Nat→Nat→List V→Hp→Prop) (Q:Hp→Prop) (g:TG) (tc:TT) (te:TE) (σ0:St) (i m:Nat) (ys:List V) (H2:Hp):Prop :=
 H2 D=some (.lst ys)∧((J.stop i H2∧Q H2)∨(J.go i H2∧ys.length<sizeLine∧∀ x H3,J.yld i H2 x H3→g x σ0 H3 fun σ4 H4=>zLc σ0 σ4∧tc σ4 H4 fun b H5 =>
   if b=true then te σ4 H5 fun y H6=>H6 D=some (.lst ys)∧∃ m',m'<m∧W (i+1) m' (ys++[y]) (upd H6 D (.lst (ys++[y]))) else ∃ m',m'<m∧W (i+1) m' ys H5))
noncomputable def stC (k:Nat) (js:List Nat) (σ:St):St:=qC2 k Option.none++js.map fun j=>(σ[j]?).getD Option.none
noncomputable def zTF (wi:TI) (k:Nat) (js:List Nat) (g:TG) (tc:TT) (te:TE):TE:=fun σ H Q =>
 wi σ H fun J H1=>∀ D,H1 D=none→∃ W:Nat→Nat→List V→Hp→Prop,(∃ m,W 0 m [] (upd H1 D (.lst [])))∧∀ i m ys H2,W i m ys H2→zVH J D W (Q (.ref D)) g tc te (stC k js σ) i m ys H2
theorem zP7 {k:Nat}{js:List Nat}{σ:St}{i:Nat}{v:V} (h:(stC k js σ)[i]?=some (some v)):∃ j,k≤i∧js[i - k]?=some j∧σ[j]?=some (some v):=by
 unfold stC at h
 by_cases hi:i<k
 ·rw [qC1 (by simpa using hi),qF9] at h
  simp [hi] at h
 ·rw [qB6 (by simpa using hi),qG6,qA6] at h
  cases e:js[i - k]? with
  | none=>rw [e] at h; simp at h
  | some j =>
   rw [e] at h
   simp only [qO3,Option.some.injEq] at h
   refine ⟨j,by omega,rfl,?_⟩
   cases q:σ[j]? with
   | none=>rw [q] at h; simp at h
   | some z =>
    rw [q] at h
    simp at h
    rw [h]
theorem zG9 {scope:Scope}{env:Env}{x:Str} (h:scope.names.lookup x=some .free):(relabel scope env).names.lookup x=some .cell∨(relabel scope env).names.lookup x=some .free:=by
 unfold relabel
 dsimp only
 generalize scope.names=ns at h
 induction ns with
 | nil=>cases h
 | cons a r ih =>
  obtain ⟨n,k⟩:=a
  rw [qC9] at h
  rw [qC5]
  cases hx:x == n with
  | true =>
   rw [hx] at h
   cases h
   dsimp only
   split
   ·exact .inl (by rw [qC9,hx])
   ·exact .inr (by rw [qC9,hx])
  | false =>
   rw [hx] at h
   dsimp only
   split
   ·rw [qC9,hx]; exact ih h
   ·rw [qC9,hx]; exact ih h
inductive CInv (Y:Cx) (σ0:St) (tn:Nat→Heap→Prop) (fp:List Addr) (W:Nat→Nat→List V→Hp→Prop) (n:Nat) (s:Shared):Prop
 | mk (i:Nat) (ys:List V) (H:Hp) (I:Inv Y [] σ0 H s) (st:tn i s.heap) (fr:∀ b∈fp,H b=none) (w:W i n ys H)
theorem zQO {Y:Cx}{elt iter tg:Expr}{ifs:List Expr}{scope:Scope}{pos:Pos}{g:TG}{tc:TT}{te:TE}{J:It}{fp:List Addr}{it D:Addr}{tn:Nat→Heap→Prop}{σ0:St}{W:Nat→Nat→List V→Hp→Prop}{Q:Hp→Prop}{R:Result→Shared→Prop}
  (hc:Y.calm=true) (hx:Y.xe=fun _ _=>False) (T:Turn Y.prog Y.w Y.K tg J fp it tn) (stat:∀ H',(∀ b∈fp,H' b=none)→∀ b∈fp,FpOk Y [] H' b)
  (hg:PG Y tg g) (htc:PTs Y ifs tc) (hte:PE Y elt te) (turn:∀ i m ys H2,W i m ys H2→zVH J D W Q g tc te σ0 i m ys H2) (fin:∀ H4 s5,Inv Y [] σ0 H4 s5→Q H4→R (.ok .next) s5)
  {s:Shared}{n:Nat} (h0:CInv Y σ0 tn fp W n s) (st3:tn 0 s.heap):codeAny (model Y.prog Y.w) Y.A (.compStart (.ListComp elt [⟨tg,iter,ifs,0⟩] scope pos) 0 (.ref it) (.ref D) Y.env) R s:=by
 have loop:codeAny (model Y.prog Y.w) Y.A (.compLoop (.ListComp elt [⟨tg,iter,ifs,0⟩] scope pos) 0 (.ref it) (.ref D) Y.env) R s:=by
  refine zM6 (CInv Y σ0 tn fp W) ?_ n h0
  rintro n s4 ⟨i,ys,H4,I4,st4,fr4,w4⟩
  obtain ⟨hD4,hd⟩:=turn i n ys H4 w4
  rcases hd with ⟨stop,q⟩ | ⟨go,hz,step⟩
  ·refine thn (T.done Y rfl rfl rfl hc i [] s4 _ H4 _ I4 (stat _ fr4) st4 stop) fun r s5 ⟨hr,I5⟩=>?_
   subst hr
   exact fin H4 s5 I5 q
  ·refine thn (T.item Y rfl rfl rfl hc i [] s4 _ H4 _ I4 (stat _ fr4) st4 go) fun r s5 ⟨u,hr,h5⟩=>?_
   subst hr
   refine thn h5 fun _ s6 ⟨x,H6,I6,r6,y6,st6,fr6⟩=>?_
   have I6':=I6.pinned (stat _ fr6) (T.obj _ _ st6)
   have back:∀ {σ7:St}{H7:Hp}{s7:Shared}{m:Nat}{zs:List V},Inv Y ([]++zKj fp s6.heap) σ7 H7 s7→zLc σ0 σ7→W (i+1) m zs H7→CInv Y σ0 tn fp W m s7:=fun {σ7 H7 s7 m zs} I7 hw w7=>by
    refine ⟨i+1,zs,H7,I7.unpinned.weak hw.1 hw.2,T.keep _ _ _ st6 fun b hb o e=>(I7.pin (b,o) (qD3 _ (qD3 _ (zDe hb e)))).1,fun b hb=>?_,w7⟩
    obtain ⟨o,e,d⟩:=T.obj _ _ st6 b hb
    exact (I7.pin (b,o) (qD3 _ (qD3 _ (zDe hb e)))).2.1
   have no:∀ {E:Value→Shared→Prop} (e:Value) (s':Shared),Y.xe e s'→E e s':=fun e s' z=>by rw [hx] at z; exact z.elim
   refine wpAny_mono (hg _ s6 _ H6 x u _ I6' r6 (step x H6 y6)) (fun _ s7 ⟨σ7,H7,I7,hw7,q7⟩=>?_) no
   refine wpAny_mono (htc _ s7 σ7 H7 _ I7 q7) (fun b s8 ⟨H8,I8,q8⟩=>?_) no
   cases b with
   | false =>
    obtain ⟨m',hm,w8⟩:=(show ∃ m',m'<n∧W (i+1) m' ys H8 by simpa using q8)
    rw [if_neg (by decide)]
    exact ⟨m',hm,back I8 hw7 w8⟩
   | true =>
    rw [if_pos rfl] at q8
    rw [if_pos rfl]
    refine wpAny_mono (hte _ s8 σ7 H8 _ I8 q8) (fun y s9 ⟨vy,H9,I9,r9,q9⟩=>?_) no
    obtain ⟨hD9,m',hm,w9⟩:=q9
    refine wpAny_mono (zKo (X:=Y) _ s9 σ7 H9 (.ref D) [vy] (.ref D) [y] (fun _ H'=>W (i+1) m' (ys++[vy]) H') I9 rfl (.cons r9 .nil) ⟨_,ys,vy,rfl,rfl,hD9,hz,w9⟩) (fun z s10 ⟨_,H10,I10,_,q10⟩=>?_) no
    exact ⟨m',hm,back I10 hw7 q10⟩
 exact codeAny_compStart_list loop (T.self _ 0 _ _ _ st3 loop)
theorem zOk {elt iter tg:Expr}{ifs:List Expr}{pos:Pos}{k:Nat}{js:List Nat}{J:It}{fp:List Addr}{it:Addr}{tn:Nat→Heap→Prop}{H2:Hp}{s2:Shared}{RR:Value→Addr→Result→Shared→Prop}
  (B:zOB X scope N k js) (I2:Inv X pins σ H2 s2) (T:Turn X.prog X.w X.K tg J fp it tn) (st2:tn 0 s2.heap) (f2:∀ b∈fp,FpOk X pins H2 b)
  (h:∀ (cl:List (Str × Addr)) (C:Addr) (s4:Shared),s2.heap.objs.size≤C→s2.heap.objs.size≠C→Inv (zCa X scope N cl s2 H2 C fp) [] (stC k js σ) (upd H2 s2.heap.objs.size (.lst [])) s4→tn 0 s4.heap →
   codeAny (model X.prog X.w) X.A (.compStart (.ListComp elt [⟨tg,iter,ifs,0⟩] scope pos) 0 (.ref it) (.ref s2.heap.objs.size) (compEnvC scope cl C X.env)) (RR (.ref s2.heap.objs.size) C) s4) :
  wpAny (model X.prog X.w) X.A (newList []) (fun acc s3=>wpAny (model X.prog X.w) X.A (newFunctionEnv scope X.env.globals (clOf X.env scope.names []) [] X.env.qual none .none (some X.env)) (fun cenv s4 =>
   codeAny (model X.prog X.w) X.A (.compStart (.ListComp elt [⟨tg,iter,ifs,0⟩] scope pos) 0 (.ref it) acc { cenv with scope:=relabel scope X.env }) (RR acc cenv.locals) s4) X.xe s3) X.xe s2:=by
 have hcell:∀ x,(x,NameKind.free)∈scope.names→∃ c,X.env.cells.lookup x=some c:=fun x hx=>I2.ok.has x (B.free x hx)
 refine wpAny_newObj_type (zHX ?_)
 dsimp only
 generalize hP:s2.heap.push { cls:=.type "list",dict:=none,data:=.seq ([]:List Value).toArray }=P
 have hPs:P.objs.size=s2.heap.objs.size+1:=by rw [← hP,qF0]
 have hDC:s2.heap.objs.size≠P.objs.size:=by rw [hPs]; exact qC3 (qL1 _)
 have hCle:s2.heap.objs.size≤P.objs.size:=by rw [hPs]; exact qN3 _
 generalize hP2:P.push { cls:=.type "dict",data:=.dict #[] }=P2
 have hP2s:P2.objs.size=P.objs.size+1:=by rw [← hP2,qF0]
 have hns1:(pushCells P2 scope.names).Ns P.objs.size (fun _=>none):=(hP2▸Heap.Ns.new P (.type "dict")).keeps (pushCells_keeps _ _)
 have old:∀ b o,s2.heap.get? b=some o→(pushCells P2 scope.names).get? b=some o:=fun b o e=>pushCells_keeps _ _ _ _ (hP2▸qA4 _ (hP▸qA4 _ e))
 have hacc:(pushCells P2 scope.names).get? s2.heap.objs.size=some { cls:=.type "list",dict:=none,data:=.seq ([]:List Value).toArray }:=pushCells_keeps _ _ _ _ (hP2▸qA4 _ (hP▸qB4 _ rfl))
 have hfx:∀ b∈fp,b<s2.heap.objs.size:=fun b hb=>by
  obtain ⟨o,e,_⟩:=T.obj _ _ st2 b hb
  exact qB1 e
 have ok:=I2.compOk (N:=N) (C:=P.objs.size) (ex:=fp) B.kind hcell hP2s hCle f2 hfx
 refine h (cellsFrom P2.objs.size scope.names (clOf X.env scope.names [])) P.objs.size _ hCle hDC ?_ (T.keep _ _ _ st2 fun b _ o e=>old b o e)
 refine ⟨ok,rfl,I2.bare,Un.laid old (qB0 _) (I2.hok.fresh (qB0 _)),⟨_,hns1,fun i x v e1 e2 e3=>?_⟩,fun x c e=>?_,?_,fun x c e=>?_,fun p hp=>(by cases hp),I2.hok.laid old (qB0 _) ?_,?_⟩
 ·obtain ⟨j,hki,hj,hv⟩:=zP7 e2
  obtain ⟨y,n1,n2,n3,n4⟩:=B.js _ j hj
  have ei:k+(i - k)=i:=by omega
  rw [ei] at n1
  have e1':N[i]?=some x:=e1
  rw [n1] at e1'
  cases e1'
  obtain ⟨m,hn,hl⟩:=I2.loc
  obtain ⟨u,r,lk⟩:=hl j x v n2 hv n4
  refine ⟨u,r,?_⟩
  have mem:=zEQ n3
  rcases lk with ⟨kk,_⟩ | ⟨kk,c,ec,ce⟩
  ·rcases B.free x mem with z | z
   ·rw [z] at kk; cases kk
   ·rw [z] at kk; cases kk
  ·obtain ⟨c0,ec0⟩:=zEw scope.names P2.objs.size _ (.inr (zFl (env:=X.env) scope.names [] x (.inr ⟨mem,c,ec⟩)))
   have hc0:c0=c:=by
    rcases zCi _ _ _ ec0 with ⟨q,_⟩ | ⟨_,q⟩
    ·have:=B.cell x q; rw [n3] at this; cases this
    ·have:=zKP q; rw [ec] at this; cases this; rfl
   subst hc0
   refine .inr ⟨zG9 n3,c0,ec0,?_⟩
   obtain ⟨o,ho,hd⟩:=ce
   exact ⟨o,old _ _ ho,hd⟩
 ·rcases zCi _ _ _ e with ⟨_,_,q⟩ | ⟨_,q⟩
  ·exact ⟨_,q⟩
  ·obtain ⟨v,o,ho,hd⟩:=I2.cell x c (zKP q)
   exact ⟨v,o,old _ _ ho,hd⟩
 ·show upd H2 s2.heap.objs.size (.lst []) P.objs.size=none
  rw [zAi (Ne.symm hDC)]
  exact I2.hok.fresh hCle
 ·rcases zCi _ _ _ e with ⟨_,q,_⟩ | ⟨_,q⟩
  ·have hlt:s2.heap.objs.size<c:=qB8 (by rw [hP2s,hPs]; omega) q
   rw [zAi (qH2 hlt)]
   exact I2.hok.fresh (qH0 hlt)
  ·obtain ⟨v,o,ho,hd⟩:=I2.cell x c (zKP q)
   rw [zAi (qC3 (qB1 ho))]
   exact I2.freeC x c (zKP q)
 ·exact ⟨qJ2 _,[],_,.nil,hacc⟩
 ·unfold stC
  rw [qC4,qG6,qA2]
  exact B.len.symm
theorem zNn {elt iter tg:Expr}{ifs:List Expr}{pos:Pos}{k:Nat}{js:List Nat}{g:TG}{tc:TT}{te:TE}{J:It}{fp:List Addr}{it:Addr}{tn:Nat→Heap→Prop}{H2:Hp}{s2:Shared}{RR:Value→Addr→Result→Shared→Prop}{Q:V→Hp→Prop}
  (B:zOB X scope N k js) (I2:Inv X pins σ H2 s2) (T:Turn X.prog X.w X.K tg J fp it tn) (st2:tn 0 s2.heap) (f2:∀ b∈fp,FpOk X pins H2 b)
  (hg:∀ cl s H C ex,PG (zCa X scope N cl s H C ex) tg g) (htc:∀ cl s H C ex,PTs (zCa X scope N cl s H C ex) ifs tc) (hte:∀ cl s H C ex,PE (zCa X scope N cl s H C ex) elt te)
  (hW:∀ D,H2 D=none→∃ W:Nat→Nat→List V→Hp→Prop,(∃ m,W 0 m [] (upd H2 D (.lst [])))∧∀ i m ys H2,W i m ys H2→zVH J D W (Q (.ref D)) g tc te (stC k js σ) i m ys H2)
  (fin:∀ cl C H4 s5,s2.heap.objs.size≤C→s2.heap.objs.size≠C→Inv (zCa X scope N cl s2 H2 C fp) [] (stC k js σ) H4 s5→Q (.ref s2.heap.objs.size) H4→RR (.ref s2.heap.objs.size) C (.ok .next) s5) :
  wpAny (model X.prog X.w) X.A (newList []) (fun acc s3=>wpAny (model X.prog X.w) X.A (newFunctionEnv scope X.env.globals (clOf X.env scope.names []) [] X.env.qual none .none (some X.env)) (fun cenv s4 =>
   codeAny (model X.prog X.w) X.A (.compStart (.ListComp elt [⟨tg,iter,ifs,0⟩] scope pos) 0 (.ref it) acc { cenv with scope:=relabel scope X.env }) (RR acc cenv.locals) s4) X.xe s3) X.xe s2:=by
 obtain ⟨W,⟨m0,w0⟩,turn⟩:=hW s2.heap.objs.size (I2.hok.fresh (qB0 _))
 refine zOk B I2 T st2 f2 fun cl C s4 h1 h2 I4 st4=>?_
 refine zQO (Y:=zCa X scope N cl s2 H2 C fp) B.calm rfl T (fun H' hn b hb=>⟨hn b hb,(I4.ok.exf b hb).1,I4.ok.exfs b hb,.inl hb,(I4.ok.exf b hb).2,fun p hp=>by cases hp⟩) (hg _ _ _ _ _) (htc _ _ _ _ _) (hte _ _ _ _ _) turn (fun H4 s5 I5 q=>fin cl C H4 s5 h1 h2 I5 q) (n:=m0) ⟨0,[],_,I4,st4,fun b hb=>?_,w0⟩ st4
 obtain ⟨o,e,_⟩:=T.obj _ _ st2 b hb
 rw [zAi (qC3 (qB1 e))]
 exact (f2 b hb).1
theorem zUv {elt iter tg:Expr}{ifs:List Expr}{pos:Pos}{wi:TI}{g:TG}{tc:TT}{te:TE}{k:Nat}{js:List Nat} (B:zOB X scope N k js) (hi:PI X tg iter wi)
  (hg:∀ cl s H C ex,PG (zCa X scope N cl s H C ex) tg g) (htc:∀ cl s H C ex,PTs (zCa X scope N cl s H C ex) ifs tc) (hte:∀ cl s H C ex,PE (zCa X scope N cl s H C ex) elt te)
  (hs:∀ x,foldedSetIterable iter X.env x=pure x:=by intro _; rfl):PE X (.ListComp elt [⟨tg,iter,ifs,0⟩] scope pos) (zTF wi k js g tc te):=by
 intro pins s σ H Q I h
 rw [eval_ListComp]
 refine wpAny_comprehension_free (use:=none) rfl hs (zFk fun x hx=>I.ok.has x (B.free x hx)) B.kind B.names (thn (hi pins s σ H _ I h) fun v s1 h1=>thn h1 fun itv s2 h2=>?_)
 obtain ⟨it,fp,tn,J,H2,e,I2,T,st2,f2,hW⟩:=h2
 subst e
 refine zNn B I2 T st2 f2 hg htc hte hW fun cl C H4 s5 hCle hDC I5 q=>?_
 obtain ⟨m,hn,_⟩:=id I5.loc
 have hC4:H4 C=none:=I5.free
 refine ⟨m,hn,fun h' hs'=>⟨.ref s2.heap.objs.size,H4,?_,rfl,q⟩⟩
 have bl:∀ b o,s2.heap.get? b=some o→b≠C:=fun b o e=>qC3 (qB8 (qB1 e) hCle)
 refine I2.call' (s':={ s5 with heap:=h' }) (ch:=fp) I5.os ?_ (fun b u e=>?_) I5.bare (fun b hb=>⟨(f2 b hb).2.2.2.1,(f2 b hb).2.1,(f2 b hb).2.2.2.2.1,(f2 b hb).2.2.2.2.2⟩)
 ·have U:=I5.base
  exact ⟨fun b o e n hb hx=>(hs'.2 b (bl b o e)).trans (U.keep b o e n hb hx),fun b o e n hb hx=>by
    obtain ⟨sl,z⟩:=U.slot b o e n hb hx
    exact ⟨sl,(hs'.2 b (bl b o e)).trans z⟩,U.free,fun b o e hx=>by
    obtain ⟨o',z⟩:=U.there b o e hx
    exact ⟨o',(hs'.2 b (bl b o e)).trans z⟩,U.tups,U.frzs,U.tbls⟩
 ·refine (I5.hok b u e).stay (fun c w' hcc q'=>(hs'.2 c ?_).trans q') (fun _ q'=>q') fun _ _ q'=>q'
  rintro rfl
  rcases hcc with rfl | hcc
  ·rw [hC4] at e; cases e
  ·rw [hC4] at hcc; cases hcc
end
theorem zJ6 {H:Hp}{p:Addr} (h:H p=none) (o:HO):Same H (upd H p o):=fun b u q=>by rw [zAi (zBc q h)]; exact q
theorem Same.tup {K:W.Frag}{H H':Hp}{a:Addr}{xs:List V} (e:Same H H') (h:SqT K H a xs):SqT K H' a xs:=by
 rcases h with (h | ⟨o,h⟩) | h
 ·exact .inl (.inl (e _ _ h))
 ·exact .inl (.inr ⟨o,e _ _ h⟩)
 ·exact .inr h
section
variable {X:Cx}{pins:List (Addr × Obj)}{σ:St}{H:Hp}{s:Shared}
theorem Inv.yields {wr:List Addr}{h':Heap}{tk:Nat}{T:Addr}{xs:List V}{its:List Value} (I:Inv X pins σ H s) (hf:∀ b∈wr,FpOk X pins H b) (k:∀ b o,b∉wr→s.heap.get? b=some o→h'.get? b=some o)
  (hT:s.heap.objs.size≤T) (r:Vals xs its) (hz:xs.length≤sizeLine) (ht:IsTup h' T its.toArray):Inv X pins σ (upd H T (.tup xs)) { s with heap:=h',toks:=tk }:=by
 have nT:∀ b o,s.heap.get? b=some o→b≠T:=fun b o e=>qC3 (qB8 (qB1 e) hT)
 have hH:∀ b u,H b=some u→b≠T:=fun b u e=>qC3 (qB8 (I.hok.lt e) hT)
 have nw:∀ b u,H b=some u→b∉wr:=fun b u e hb=>by rw [(hf b hb).1] at e; cases e
 refine I.call' (s':={ s with heap:=h',toks:=tk }) (ch:=wr) rfl ⟨fun b o e n _ hx=>k b o hx e,fun b o e n _ hx=>⟨o.slots,k b o hx e⟩,fun b o e n _=>?_,fun b o e hx=>⟨o,k b o hx e⟩,fun b ys e=>?_,fun b o u e=>?_,fun b ps e=>⟨#[],?_⟩⟩ (fun b u e=>?_) I.bare
  (fun b hb=>⟨(hf b hb).2.2.2.1,(hf b hb).2.1,(hf b hb).2.2.2.2.1,(hf b hb).2.2.2.2.2⟩)
 ·rw [zAi (nT b o e)]; exact n
 ·rw [zAi (hH b _ e)]; exact e
 ·rw [zAi (hH b _ e)]; exact e
 ·rw [zAi (hH b _ e),e]; simp
 ·by_cases hb:b=T
  ·subst hb
   rw [zAV] at e
   cases e
   exact ⟨hz,its,r,ht⟩
  ·rw [zAi hb] at e
   refine (I.hok b u e).stay (fun c v hc q=>k c v ?_ q) (fun c q=>?_) fun c ys q=>?_
   ·rcases hc with rfl | hc
    ·exact nw _ _ e
    ·exact nw _ _ hc
   ·rw [zAi (hH c _ q)]; exact q
   ·rw [zAi (hH c _ q)]; exact q
theorem Inv.turnedL {wr:List Addr}{h':Heap}{tk:Nat} (I:Inv X pins σ H s) (hf:∀ b∈wr,FpOk X pins H b) (k:∀ b o,b∉wr→s.heap.get? b=some o→h'.get? b=some o):Inv X pins σ H { s with heap:=h',toks:=tk }:=by
 have nw:∀ b u,H b=some u→b∉wr:=fun b u e hb=>by rw [(hf b hb).1] at e; cases e
 refine I.call' (s':={ s with heap:=h',toks:=tk }) (ch:=wr) rfl ⟨fun b o e n _ hx=>k b o hx e,fun b o e n _ hx=>⟨o.slots,k b o hx e⟩,fun b o e n _=>n,fun b o e hx=>⟨o,k b o hx e⟩,fun b ys e=>e,fun b o u e=>e,fun b ps e=>⟨#[],by rw [e]; simp⟩⟩ (fun b u e=>?_) I.bare
  (fun b hb=>⟨(hf b hb).2.2.2.1,(hf b hb).2.1,(hf b hb).2.2.2.2.1,(hf b hb).2.2.2.2.2⟩)
 refine (I.hok b u e).stay (fun c v hc q=>k c v ?_ q) (fun c q=>q) fun c ys q=>q
 rcases hc with rfl | hc
 ·exact nw _ _ e
 ·exact nw _ _ hc
end
section
variable {X:Cx}
theorem zMi:zCw X (.type "range") (fun vs H Q=>∃ i j:Int,vs=[.int i,.int j]∧∀ p,H p=none→Q (.ref p) (upd H p (.rng i j))):=by
 intro pins s σ H xs us Q I r h
 obtain ⟨i,j,rfl,q⟩:=h
 obtain ⟨u,v,rfl,ru,rv⟩:=zRr r
 obtain ⟨t,rfl⟩:=ru
 obtain ⟨t',rfl⟩:=rv
 refine call_range_2 ⟨.ref s.heap.objs.size,_,I.laid (o:=.rng i j) (fun b o e=>qA4 _ e) (qB0 _) ?_,rfl,q _ (I.hok.fresh (qB0 _))⟩
 exact ⟨_,_,_,qB4 _ rfl⟩
theorem zMj:zCw X (.type "range") (fun vs H Q=>∃ j:Int,vs=[.int j]∧∀ p,H p=none→Q (.ref p) (upd H p (.rng 0 j))):=by
 intro pins s σ H xs us Q I r h
 obtain ⟨j,rfl,q⟩:=h
 obtain ⟨u,rfl,ru⟩:=zF2 r
 obtain ⟨t,rfl⟩:=ru
 refine call_range_1 ⟨.ref s.heap.objs.size,_,I.laid (o:=.rng 0 j) (fun b o e=>qA4 _ e) (qB0 _) ?_,rfl,q _ (I.hok.fresh (qB0 _))⟩
 exact ⟨_,_,_,qB4 _ rfl⟩
noncomputable def upV (lo:Int) (n:Nat):List V:=(List.range n).map fun k=>V.int (lo+(k:Nat))
theorem zTy {lo:Int}{n:Nat}{acc:Array Value} (h:ItemsOf (fun i v=>∃ t,v=.int (lo+i*1) t) acc n):Vals (upV lo n) acc.toList:=by
 obtain ⟨hs,h⟩:=h
 have key:∀ (k:Nat) (us:List Value) (lo:Int),us.length=k→(∀ (i:Nat) (v:Value),us[i]?=some v→∃ t,v=Value.int (lo+(i:Nat)) t)→Vals ((List.range k).map fun j=>V.int (lo+(j:Nat))) us:=by
  intro k
  induction k with
  | zero=>intro us lo hl _; cases us with
   | nil=>exact .nil
   | cons a r=>simp at hl
  | succ k ih =>
   intro us lo hl hh
   cases us with
   | nil=>simp at hl
   | cons a r =>
    rw [qK5,qC5,qC0]
    refine .cons ?_ ?_
    ·obtain ⟨t,e⟩:=hh 0 a rfl
     exact ⟨t,e⟩
    ·have:=ih r (lo+1) (by simpa using hl) fun i v e=>by
      obtain ⟨t,q⟩:=hh (i+1) v (by simpa using e)
      exact ⟨t,by rw [q]; congr 1; omega⟩
     have e:((fun (j:Nat)=>V.int (lo+(j:Nat)))∘Nat.succ)=fun (j:Nat)=>V.int (lo+1+(j:Nat)):=by
      funext j
      simp only [Function.comp]
      congr 1
      omega
     rw [e]
     exact this
 exact key n acc.toList lo (by simpa using hs) fun i v e=>by
  obtain ⟨t,q⟩:=h i v (by simpa using e)
  exact ⟨t,by rw [q,Int.mul_one]⟩
theorem zJv (hc:X.calm=true):zCw X (.type "list") (fun vs H Q=>∃ p i j,vs=[.ref p]∧H p=some (.rng i j)∧-(2 ^ 62)≤i∧i<2 ^ 62∧-(2 ^ 62)≤j∧j<2 ^ 62∧(j - i).toNat≤1000∧∀ l,H l=none→Q (.ref l) (upd H l (.lst (upV i (j - i).toNat)))):=by
 intro pins s σ H xs us Q I r h
 obtain ⟨p,i,j,rfl,hp,b1,b2,b3,b4,hn,q⟩:=h
 obtain ⟨u,rfl,ru⟩:=zF2 r
 cases ru
 obtain ⟨t,u,v,e⟩:=(show zCE X.prog X.w H s.heap p (.rng i j) from I.hok _ _ hp)
 refine call_list_range (n:=(j - i).toNat) (I.ok.hd hc) (show IsRange s.heap p i j 1 t u v from e) (small_one b1 b2 b3 b4) (by rw [rangeSize_one]; split <;> omega) (qC6 hn (by decide)) fun h' tk acc' c' hk he hi=>?_
 have hv:=zTy hi
 refine ⟨.ref s.heap.objs.size,_,I.laid (o:=.lst (upV i (j - i).toNat)) hk (qB0 _) ⟨?_,acc'.toList,c',hv,by simpa using he⟩,rfl,q _ (I.hok.fresh (qB0 _))⟩
 unfold upV
 rw [qA2,qF3]
 exact qC6 hn (by decide)
noncomputable def zU7:V→List V→Hp→VK→Prop:=fun x vs H Q=>∃ (l:Addr) (xs:List V) (i:Nat) (y:V),x=.ref l∧vs=[.int i,y]∧H l=some (.lst xs)∧xs.length<1000∧i≤xs.length∧Q .non (upd H l (.lst (xs.take i++y::xs.drop i)))
theorem zPS:MtM X "list.insert" zU7:=by
 intro pins s σ H x vs v us Q I rx rv h
 obtain ⟨l,xs,i,y,rfl,rfl,hH,hz,hi,q⟩:=h
 cases rx
 obtain ⟨u1,u2,rfl,r1,r2⟩:=rv.two
 obtain ⟨t,rfl⟩:=r1
 obtain ⟨z,its,n,r,hl,e⟩:=I.lstM hH
 generalize hx:((i:Nat):Int)=x
 have hx0:0≤x:=by omega
 have hx1:x.toNat=i:=by omega
 have hfit:¬ (!Builtin.List.listFitsIndex x)=true:=by
  rw [fitsIndex_both (by omega) (by omega)]
  exact qA7
 have hsz:its.toArray.size≤sizeLine:=by rw [qA8,← hl]; exact z
 refine call_meets F.slot_list_insert ⟨_,e,rfl⟩ F.entry_list_insert (F.args_list_insert_3 _ _ _) (PySem.AutoSeq1.list_insert_list_int_val_1 l _ n x t u2 hfit hsz) ⟨e,?_⟩
 refine ⟨.non,_,I.lset (its':=its.take i++u2::its.drop i) hH e ?_ ((r.take i).append (.cons r2 (r.drop i))) ?_,rfl,q⟩
 ·have hk:(if x<0 then (x+((its.toArray.size:Nat):Int)).toNat else min x.toNat its.toArray.size)=i:=by
   rw [if_neg (by omega),qA8]
   omega
  show (its.toArray.extract 0 (if x<0 then (x+((its.toArray.size:Nat):Int)).toNat else min x.toNat its.toArray.size)).push u2++its.toArray.extract (if x<0 then (x+((its.toArray.size:Nat):Int)).toNat else min x.toNat its.toArray.size)=_
  rw [hk]
  apply Array.ext'
  simp
  exact qG1 (by rw [qG4]; exact qB0 _)
 ·rw [qC4,qD0,qI0,qG4]
  have:(1000:Nat)≤sizeLine:=by decide
  omega
theorem zGQ {A:Around}{prog:Program}{w:World}{bs:List Bool}{its:List Value} (r:Vals (bs.map V.bl) its):TruthOf prog w A (fun i v=>its.toArray[i]?=some v) (fun i=>bs.getD i false):=by
 intro i v s Q E hv hq
 have hv':its[i]?=some v:=by simpa using hv
 have hl:i<bs.length:=by
  have h1:=(qA5.mp hv').1
  have h2:=r.length
  rw [qA2] at h2
  omega
 obtain ⟨u,e,ru⟩:=Vals.get r (i:=i) (x:=.bl bs[i]) (by rw [qA6,qA0 hl]; rfl)
 rw [e] at hv'
 cases hv'
 have ru':v=Value.bool bs[i]:=ru
 subst ru'
 have eq:bs.getD i false=bs[i]:=by simp [qF5,hl]
 have hq':Q (bs.getD i false) s:=hq
 rw [eq] at hq'
 exact wpAny_truthy_bool hq'
theorem zKe (bs:List Bool):(List.range bs.length).all (fun i=>bs.getD i false)=bs.all id:=by
 induction bs with
 | nil=>rfl
 | cons b r ih =>
  rw [qD0,qK5,qJ8,qN9,qJ8]
  show (b&&(List.range r.length).all ((fun i=>(b::r).getD i false)∘Nat.succ))=(b&&r.all id)
  rw [← ih]
  rfl
theorem zKd (bs:List Bool):(List.range bs.length).any (fun i=>bs.getD i false)=bs.any id:=by
 induction bs with
 | nil=>rfl
 | cons b r ih =>
  rw [qD0,qK5,qE9,qO0,qE9]
  show (b||(List.range r.length).any ((fun i=>(b::r).getD i false)∘Nat.succ))=(b||r.any id)
  rw [← ih]
  rfl
theorem zR3 (hc:X.calm=true):zCw X (.builtin "all") (fun vs H Q=>∃ (p:Addr) (bs:List Bool),vs=[.ref p]∧SqL X.K H p (bs.map V.bl)∧Q (.bl (bs.all id)) H):=by
 intro pins s σ H xs us Q I r h
 obtain ⟨p,bs,rfl,hq,q⟩:=h
 obtain ⟨u,rfl,ru⟩:=zF2 r
 cases ru
 obtain ⟨its,rv,pl,hz⟩:=I.list hq
 have hlt:p<s.heap.objs.size:=by obtain ⟨_,e,_⟩:=pl.isList; exact qB1 e
 have hlen:=rv.length
 rw [qA2] at hlen
 refine call_all_walk (wpAny_pyIter_list pl.isList ?_)
 refine ⟨s.heap.objs.size,_,[s.heap.objs.size],_,_,_,_,rfl,Walks.list (A:=X.A.in1) (show X.A.in1.handled=none from I.ok.hd hc) s.heap.objs.size p (qC3 hlt) its.toArray,⟨⟨_,qB4 _ rfl,rfl,rfl⟩,pl.isList.push _⟩,zGQ rv,fun h' tk kk=>?_⟩
 have e:(List.range its.toArray.size).all (fun i=>bs.getD i false)=bs.all id:=by rw [qA8,← hlen]; exact zKe bs
 rw [e]
 refine ⟨.bl (bs.all id),H,?_,rfl,q⟩
 exact I.kept (t':=tk) fun b o eb=>kk b o (by simp only [qE6]; exact qC3 (qB1 eb)) (qA4 _ eb)
theorem zR1 (hc:X.calm=true):zCw X (.builtin "any") (fun vs H Q=>∃ (p:Addr) (bs:List Bool),vs=[.ref p]∧SqL X.K H p (bs.map V.bl)∧Q (.bl (bs.any id)) H):=by
 intro pins s σ H xs us Q I r h
 obtain ⟨p,bs,rfl,hq,q⟩:=h
 obtain ⟨u,rfl,ru⟩:=zF2 r
 cases ru
 obtain ⟨its,rv,pl,hz⟩:=I.list hq
 have hlt:p<s.heap.objs.size:=by obtain ⟨_,e,_⟩:=pl.isList; exact qB1 e
 have hlen:=rv.length
 rw [qA2] at hlen
 refine call_any_walk (wpAny_pyIter_list pl.isList ?_)
 refine ⟨s.heap.objs.size,_,[s.heap.objs.size],_,_,_,_,rfl,Walks.list (A:=X.A.in1) (show X.A.in1.handled=none from I.ok.hd hc) s.heap.objs.size p (qC3 hlt) its.toArray,⟨⟨_,qB4 _ rfl,rfl,rfl⟩,pl.isList.push _⟩,zGQ rv,fun h' tk kk=>?_⟩
 have e:(List.range its.toArray.size).any (fun i=>bs.getD i false)=bs.any id:=by rw [qA8,← hlen]; exact zKd bs
 rw [e]
 refine ⟨.bl (bs.any id),H,?_,rfl,q⟩
 exact I.kept (t':=tk) fun b o eb=>kk b o (by simp only [qE6]; exact qC3 (qB1 eb)) (qA4 _ eb)
theorem zS6:OpR X (compareOp .Is) (fun x y H Q=>∃ a b,x=.bl a∧y=.bl b∧Q (.bl (a == b)) H):=by
 intro pins s σ H x y v u Q I rx ry h
 obtain ⟨a,b,rfl,rfl,q⟩:=h
 cases rx
 cases ry
 exact is_bool ⟨.bl (a == b),H,I,rfl,q⟩
theorem zLy:OpR X (compareOp .IsNot) (fun x y H Q=>∃ a b,x=.bl a∧y=.bl b∧Q (.bl (a != b)) H):=by
 intro pins s σ H x y v u Q I rx ry h
 obtain ⟨a,b,rfl,rfl,q⟩:=h
 cases rx
 cases ry
 exact isnot_bool ⟨.bl (a != b),H,I,rfl,q⟩
end
section
variable {X:Cx}
noncomputable def zWF (K:W.Frag):R2:=fun x y H Q=>∃ a b xs ys,x=.ref a∧y=.ref b∧H a=some (.tup xs)∧H b=some (.tup ys)∧xs.length+ys.length≤sizeLine∧∀ p H1,Same H H1→H1 p=some (.tup (xs++ys))→Q (.ref p) H1
theorem zS7:OpR X (binaryOp .Add) (zWF X.K):=by
 intro pins s σ H x y v u Q I rx ry h
 obtain ⟨a,b,xs,ys,rfl,rfl,ha,hb,hz,q⟩:=h
 by_cases hx:xs=[]
 ·subst hx
  cases rx
  cases ry
  obtain ⟨its,r1,p1,_⟩:=I.tuple (SqT.of ha)
  obtain ⟨its2,r2,p2,_⟩:=I.tuple (SqT.of hb)
  have e:its=[]:=(r1.nil_iff).mpr rfl
  subst e
  obtain ⟨⟨cls,dd,data,sl⟩,ho,hc,n,hd⟩:=id p1
  obtain ⟨⟨cls2,dd2,data2,sl2⟩,ho2,hc2,n2,hd2⟩:=id p2
  simp only at hc hd hc2 hd2
  subst hc hd hc2 hd2
  exact concat_meets ⟨_,ho,rfl⟩ ⟨_,ho2,rfl⟩ noFill_tuple_add seq_tuple_add PySem.F.slot_tuple_add PySem.F.entry_tuple_add (PySem.F.args_tuple_add_2 _ _)
   (tuple_addW0 a b ([]:List Value).toArray its2.toArray n n2 dd dd2 sl sl2 (by simp)) ⟨ho,ho2,⟨.ref b,H,I,rfl,q b H (Same.refl H) hb⟩⟩
 ·refine zUE pins s σ H (.ref a) (.ref b) v u Q I rx ry ⟨a,b,xs,ys,rfl,rfl,SqT.of ha,SqT.of hb,hx,hz,fun e=>?_,fun _ p hp=>q p _ (zJ6 hp _) zAV⟩
  subst e
  exact q a H (Same.refl H) (by rw [qJ9]; exact ha)
theorem zOi (xs:List V) (lo hi:Option Int) (h:HT.sIx xs.length 0 lo=0∧HT.sIx xs.length xs.length hi=xs.length):cutV xs lo hi=xs:=by
 unfold cutV
 rw [h.1,h.2,qK6,Nat.sub_zero,qL2]
theorem zEU {prog:Program}{w:World}{A:Around}{E:Value→Shared→Prop}{s:Shared}{t sl:Addr}{items:Array Value}{vl vu:Value}{lo hi:Option Int}{Q:Value→Shared→Prop} (ht:IsTup s.heap t items) (hs:s.heap.IsSliceOf sl vl vu .none) (pl:IsPart vl lo) (pu:IsPart vu hi)
  (hw:HT.sIx items.size 0 lo=0∧HT.sIx items.size items.size hi=items.size)
  (h:Q (.ref t) s):wpAny (model prog w) A (getItem (.ref t) (.ref sl)) Q E s:=by
 obtain ⟨os,hos,hcs,hds⟩:=id hs
 have hTs:s.TypeIs (.ref sl) "slice":=⟨os,hos,hcs⟩
 unfold getItem
 try with_reducible refine wpAny_holding ?_
 first | refine wpAny_bind (wpAny_pure ?_) | skip
 refine wpAny_bind (wpAny_sequenceKey ht.typeIs (by decide) ?_)
 refine wpAny_bind (wpAny_callSpecial?_slot (name:=Str.ofString "__getitem__") ht.typeIs PyProof.Rows.slot_tuple_getitem
  (wpAny_call_entry PyProof.Rows.slot_tuple_getitem ht.typeIs entry_tuple_getitem ?_ (args_tuple_getitem _ _)))
 show wpAny _ _ (Builtin.Tuple.tupleItemsOf (.ref t) >>= _) _ _ s
 refine wpAny_bind (tupleItemsOf_ ht ?_)
 refine wpAny_bind (wpAny_typeOf hTs ?_)
 rw [if_pos (by decide)]
 refine wpAny_bind (HT.sliceApplied_gen hs pl pu ?_)
 have hyes:(((HT.sIx items.size 0 lo:Nat):Int) == 0&&(1:Int) == 1&&(HT.sIx items.size items.size hi - HT.sIx items.size 0 lo) == items.size)=true:=by
  rw [hw.1,hw.2]
  simp
 show wpAny _ _ (if (((HT.sIx items.size 0 lo:Nat):Int) == 0&&(1:Int) == 1&&(HT.sIx items.size items.size hi - HT.sIx items.size 0 lo) == items.size)=true then _ else _) _ _ s
 rw [if_pos hyes]
 have hEx:Builtin.Tuple.tupleIsExact (Value.ref t)=(typeOf (Value.ref t) >>= fun c=>pure (c == .type "tuple")):=rfl
 rw [hEx]
 refine wpAny_bind (wpAny_bind (wpAny_typeOf ht.typeIs (wpAny_pure ?_)))
 rw [if_pos (by decide)]
 exact wpAny_bind (wpAny_rule (wpAny_pure ⟨_,rfl,wpAny_pure h⟩))
noncomputable def zZH (K:W.Frag):V→Option Int→Option Int→Hp→VK→Prop:=fun x lo hi H Q=>∃ a xs,x=.ref a∧H a=some (.tup xs)∧∀ p H1,Same H H1→H1 p=some (.tup (cutV xs lo hi))→Q (.ref p) H1
theorem zTO:SlR X (zZH X.K):=by
 intro pins s σ H x v vl vu lo hi sl Q I rx hs pl pu h
 obtain ⟨a,xs,rfl,hx,q⟩:=h
 by_cases hw:HT.sIx xs.length 0 lo=0∧HT.sIx xs.length xs.length hi=xs.length
 ·cases rx
  obtain ⟨its,r,ht,hz⟩:=I.tuple (SqT.of hx)
  have hlen:its.toArray.size=xs.length:=by rw [qA8]; exact r.length.symm
  refine ⟨"tuple",_,PyProof.Rows.slot_tuple_getitem.lookup,ht.typeIs,?_⟩
  exact zEU ht hs pl pu (by rw [hlen]; exact hw) ⟨.ref a,H,I,rfl,q a H (Same.refl H) (by rw [zOi xs lo hi hw]; exact hx)⟩
 ·exact zWi pins s σ H (.ref a) v vl vu lo hi sl Q I rx hs pl pu ⟨a,xs,rfl,SqT.of hx,hw,fun p hp=>q p _ (zJ6 hp _) zAV⟩
theorem zND (l:Addr) (items:Array Value) (n:Nat) (dd:Option Addr) (sl:Array (Option Value)) (x:Int) (u:Tok) (h2:2≤x) (h3:x<1000) (hne:¬ items.isEmpty=true) (hsz:items.size*x.toNat≤sizeLine) :
  Meets (Builtin.«tuple.__mul__» ⟨[.ref l,.int x u],[]⟩) (fun _ R s=>s.heap.get? l=some { cls:=.type "tuple",dict:=dd,data:=.seq items n,slots:=sl }∧R (.ok (.ret (Value.ref s.heap.objs.size))) { s with heap:=s.heap.push { cls:=Value.type "tuple",data:=Data.seq ((qC2 x.toNat items).foldl (·++·) #[]) },toks:=s.toks }) :=
 .of_wp fun prog w A R s h=>by
  obtain ⟨hp,g,d,tk,os⟩:=s; obtain ⟨hl,h⟩:=h
  have f1:=AutoSeq1.idx_int
  have f2:=AutoSeq1.sub_tuple_tuple
  wp_walk using wpAny_loadPart' hl
  have c1:(decide (x < -2 ^ 63)||decide (x≥2 ^ 63))=false:=by
   rw [qL6]
   exact ⟨decide_eq_false (by omega),decide_eq_false (by omega)⟩
  have c2:(items.isEmpty||x == 1)=false:=by
   rw [qL6]
   exact ⟨qQ1.mpr hne,beq_eq_false_iff_ne.mpr (by omega)⟩
  have c3:(decide (x≤0)||items.isEmpty)=false:=by
   rw [qL6]
   exact ⟨decide_eq_false (by omega),qQ1.mpr hne⟩
  have hm:((items.size:Nat):Int)*x=((items.size*x.toNat:Nat):Int):=by
   rw [Int.natCast_mul,qH9 (by omega)]
  have hS:(sizeLine:Int)≤(2 ^ 63 - 1) / 8:=by decide
  have c4:¬ ((items.size:Nat):Int)*x>(2 ^ 63 - 1) / 8:=by rw [hm]; omega
  have c5:Builtin.Tuple.tupleTooMany (((items.size:Nat):Int)*x)=false:=by
   unfold Builtin.Tuple.tupleTooMany
   rw [hm]
   exact decide_eq_false (by omega)
  rw [c1,if_neg qA7]
  wp_walk using wpAny_loadPart' hl
  try rw [c2,if_neg qA7]
  wp_walk using wpAny_loadPart' hl
  try rw [c3,if_neg qA7]
  wp_walk using wpAny_loadPart' hl
  try rw [if_neg c4]
  wp_walk using wpAny_loadPart' hl
  try rw [c5,if_neg qA7]
  wp_walk using wpAny_loadPart' hl
  have hfit:(qM5 (fun x1 x2=>x1++x2) #[] (qC2 x.toNat items)).size≤sizeLine:=by
   have e:=zFh items.toList x.toNat []
   rw [qK1] at e
   have e2:qM5 (fun x1 x2=>x1++x2) #[] (qC2 x.toNat items)=(qC2 x.toNat items.toList).flatten.toArray:=e
   rw [e2,qA8,zLI,Array.length_toList,qN8]
   exact hsz
  refine wpAny_ite_false (decide_eq_false (Nat.not_lt.mpr hfit)) ?_
  wp_walk
  exact ⟨_,rfl,h⟩
theorem zGm:fillsNumberSlot (.type "tuple") "mul"=pure false :=
 PySem.fillsNumberSlot_seq (id := "tuple.__mul__") (r:=some (.builtin "tuple.__rmul__")) F.slot_tuple_mul.lookup (by decide +kernel) F.slot_tuple_rmul.lookup (by decide +kernel)
theorem zKa:seqRepeat? (.type "tuple")=pure (some (.builtin "tuple.__mul__")):=by
 unfold seqRepeat?
 rw [PySem.seqSlot_of (T := "tuple") (name := "__mul__") (id := "tuple.__mul__") F.slot_tuple_mul.lookup (by decide +kernel),PySem.seqSlot_of (T := "tuple") (name := "__rmul__") (id := "tuple.__rmul__") F.slot_tuple_rmul.lookup (by decide +kernel)]
 rfl
theorem zI1 (a:Int) (t:Tok) (l:Addr) (items:Array Value) (n:Nat) (dd:Option Addr) (sl:Array (Option Value)) :
  Meets (Builtin.«int.__rmul__» ⟨[.int a t,.ref l],[]⟩) (fun _ R s=>s.heap.get? l=some { cls:=.type "tuple",dict:=dd,data:=.seq items n,slots:=sl }∧R (.ok (.ret Value.notImplemented)) s) :=
 .of_wp fun prog w A R s h=>by obtain ⟨hp,g,d,tk,os⟩:=s; obtain ⟨hl,h⟩:=h; wp_walk; exact ⟨_,rfl,h⟩
noncomputable def zZJ (K:W.Frag):R2:=fun x y H Q=>∃ a xs k,x=.ref a∧y=.int k∧SqT K H a xs∧xs≠[]∧2≤k∧k<1000∧xs.length*k.toNat≤sizeLine∧∀ p,H p=none→Q (.ref p) (upd H p (.tup (qC2 k.toNat xs).flatten))
theorem zUB:OpR X (binaryOp .Mult) (zZJ X.K):=by
 intro pins s σ H x y v u Q I rx ry h
 obtain ⟨a,xs,k,rfl,rfl,ha,hx,h2,h3,hz,q⟩:=h
 cases rx
 obtain ⟨t,rfl⟩:=ry
 obtain ⟨its,r,p1,_⟩:=I.tuple ha
 have hl:=r.length
 obtain ⟨⟨cls,dd,data,sl⟩,ho,hc,n,hd⟩:=id p1
 simp only at hc hd
 subst hc hd
 have hne:¬ its.toArray.isEmpty=true:=by
  intro e
  have:its=[]:=by simpa using e
  exact hx (r.nil_iff.mp this)
 refine wpAny_binaryOp_repeat_ref (T := "tuple") (U := "int") (by decide) ⟨_,ho,rfl⟩ (fun s'=>typeIs_int s' k t) zGm F.fills_int_mul F.slot_int_rmul zKa F.slot_int_index.lookup
  (call_meets F.slot_int_rmul (typeIs_int s k t) F.entry_int_rmul (F.args_int_rmul_2 _ _) (zI1 k t a its.toArray n dd sl)
   ⟨ho,rfl,⟨_,ho,rfl⟩,call_meets F.slot_tuple_mul ⟨_,ho,rfl⟩ F.entry_tuple_mul (F.args_tuple_mul_2 _ _) (zND a its.toArray n dd sl k t h2 h3 hne (by rw [qA8,← hl]; exact hz)) ⟨ho,?_⟩⟩)
 have e:=zFh its k.toNat []
 rw [qK1] at e
 have e2:qM5 (fun x1 x2=>x1++x2) #[] (qC2 k.toNat its.toArray)=(qC2 k.toNat its).flatten.toArray:=e
 rw [e2]
 refine ⟨.ref s.heap.objs.size,_,I.laid (t':=s.toks) (o:=.tup (qC2 k.toNat xs).flatten) (fun b ob q=>qA4 _ q) (qB0 _) ?_,rfl,q _ (I.hok.fresh (qB0 _))⟩
 exact ⟨by rw [zLI,qN8]; exact hz,_,r.rep k.toNat,IsTup.new _ _⟩
end
structure zIU (P:Program) (w:World) (K:W.Frag) (mg:Str→Option Value) (base:Heap) (x:Str) (ps:List Str) (k:Nat) (sp:Sp):Prop where
 ex:∃ f fd,FnOk P w K mg base CX0 k f fd ps sp∧zJH K fd ps []∧W.keepIn K (.ref f)=true∧mg x=some (.ref f)
section
variable {X:Cx}{a b c d:Expr}{ta tb tc td:TE}{pos:Pos}
theorem zS0 {x:Str}{ps:List Str}{k k':Nat}{sp:Sp}{e:Expr}{es:List Expr}{t:TA}{p:Pos} (C:zIU X.prog X.w X.K X.mg X.base x ps k sp) (hr:Room k' X.A) (hg:Gl X x) (ha:PA X (e::es) t) (hk:k≤k':=by decide) (hdb:(x == ("__debug__":Str))=false:=by decide)
  (h1:starEach (e::es) X.env=(false,eval e X.env)::starEach es X.env:=by rfl) (h2:(backTo pos (starEach es X.env)).any (·.1)=false:=by rfl) :
  PE X (.Call (.Name x p) (e::es) [] pos) (zTG sp [] E0 t):=by
 obtain ⟨f,fd,F,hb,hkp,hm⟩:=C.ex
 exact zUx (hdb:=hdb) (he:=h1) (hpl:=h2) F (hr.mono hk) hg hm hkp hb .nil za0 ha
end
def TK (K:W.Frag) (H H':Hp):Prop:=∀ p xs,SqT K H p xs→SqT K H' p xs
theorem TK.refl (K:W.Frag) (H:Hp):TK K H H:=fun _ _ h=>h
theorem TK.trans {K:W.Frag}{H H1 H2:Hp} (a:TK K H H1) (b:TK K H1 H2):TK K H H2:=fun p xs h=>b p xs (a p xs h)
theorem dT {p:Prop} [Decidable p] (h:p):decide p=true:=decide_eq_true h
theorem zYp:bootBuiltins "len"=some (.builtin "len"):=by decide +kernel
theorem zSO:bootBuiltins "range"=some (.type "range"):=by decide +kernel
theorem zMm:bootBuiltins "list"=some (.type "list"):=by decide +kernel
theorem zNu:bootBuiltins "tuple"=some (.type "tuple"):=by decide +kernel
theorem zYn:bootBuiltins "min"=some (.builtin "min"):=by decide +kernel
theorem zYo:bootBuiltins "max"=some (.builtin "max"):=by decide +kernel
theorem zTs:bootBuiltins "zip"=some (.type "zip"):=by decide +kernel
theorem zJx:bootBuiltins "isinstance"=some (.builtin "isinstance"):=by decide +kernel
theorem zYr:bootBuiltins "all"=some (.builtin "all"):=by decide +kernel
theorem zYq:bootBuiltins "any"=some (.builtin "any"):=by decide +kernel
theorem zTt:bootBuiltins "int"=some (.type "int"):=by decide +kernel
theorem zVw:bootBuiltins "bool"=some (.type "bool"):=by decide +kernel
theorem zL2:bootBuiltins "enumerate"=some (.type "enumerate"):=by decide +kernel
theorem zYm:bootBuiltins "str"=some (.type "str"):=by decide +kernel
structure C4 where
 a:Int
 b:Int
 k:Int
 o:Int
def C4.ok (sw pl:Int) (c:C4):Prop:=0≤c.a∧c.a<c.b∧c.b<pl∧0≤c.k∧c.k<sw∧0≤c.o∧c.o<2
structure zYA (ms mp mc:Int) (sw pl:Int) (cs:List C4):Prop where
 s1:1≤sw
 s2:sw≤ms
 p1:2≤pl
 p2:pl≤mp
 c1:(cs.length:Int)≤mc
 c2:∀ c∈cs,c.ok sw pl
inductive Ty2 (K:W.Frag) (H:Hp):V→String→Prop where
 | non:Ty2 K H .non "NoneType"
 | bl (x:Bool):Ty2 K H (.bl x) "bool"
 | int (i:Int):Ty2 K H (.int i) "int"
 | str (x:Str):Ty2 K H (.str x) "str"
 | tup {a:Addr}{xs:List V} (e:SqT K H a xs):Ty2 K H (.ref a) "tuple"
 | lst {a:Addr}{xs:List V} (e:SqL K H a xs):Ty2 K H (.ref a) "list"
 | dk {a:Addr}{kvs:List (Key × V)} (e:H a=some (.dK kvs)):Ty2 K H (.ref a) "dict"
noncomputable def kOf (t T:String):Bool:=t == T||(t == "bool"&&T == "int")
section
variable {X:Cx}
theorem zO0 {A:Around}{E:Value→Shared→Prop}{pins:List (Addr × Obj)}{σ:St}{H:Hp}{s:Shared}{Q:Value→Shared→Prop}{c:Value}{b:Bool}{x:V}{u:Value}{t:String} (I:Inv X pins σ H s) (rx:RelV x u) (ty:Ty2 X.K H x t) (e:W.kitOne X.K (.type t) c=some b) (h:∀ tk,Q (.bool b) { s with toks:=tk }) :
  wpAny (model X.prog X.w) A (call (.builtin "isinstance") [u,c]) Q E s:=by
 cases ty with
 | non=>cases (show u=Value.none from rx); exact W.kia_one W.kitx_none I.kIn True.intro e (fun z=>nomatch z) h
 | bl y=>cases (show u=Value.bool y from rx); exact W.kia_one W.kitx_bool I.kIn True.intro e (fun z=>nomatch z) h
 | int i=>obtain ⟨t,q⟩:=(show ∃ t,u=Value.int i t from rx); cases q; exact W.kia_one W.kitx_int I.kIn True.intro e (fun z=>nomatch z) h
 | str y=>obtain ⟨t,q⟩:=(show ∃ t,u=Value.str y t from rx); cases q; exact W.kia_one W.kitx_str I.kIn True.intro e (fun z=>nomatch z) h
 | @lst a xs ea =>
  cases (show u=Value.ref a from rx)
  obtain ⟨its,_,pl,_⟩:=I.list ea
  obtain ⟨o,h1,h2,_⟩:=pl.isList
  exact W.kia_one W.kitx_list I.kIn ⟨o,h1,h2⟩ e (fun z=>nomatch z) h
 | @tup a xs ea =>
  cases (show u=Value.ref a from rx)
  obtain ⟨its,_,pl,_⟩:=I.tuple ea
  obtain ⟨o,h1,h2,_⟩:=pl
  exact W.kia_one W.kitx_tuple I.kIn ⟨o,h1,h2⟩ e (fun z=>nomatch z) h
 | @dk a kvs ea =>
  cases (show u=Value.ref a from rx)
  obtain ⟨_,_,vs,_,p⟩:=(show zCE X.prog X.w H s.heap a (.dK kvs) from I.hok a _ ea)
  obtain ⟨o,es,ep,h1,h2,_⟩:=p
  exact W.kia_one W.kitx_dict I.kIn ⟨o,h1,h2.1⟩ e (fun z=>nomatch z) h
theorem zKZ:zCw X (.builtin "isinstance") (fun vs H Q=>∃ x t T b,vs=[x,.ty T]∧Ty2 X.K H x t∧W.kitOne X.K (.type t) (.type T)=some b∧Q (.bl b) H):=by
 intro pins s σ H xs us Q I r h
 obtain ⟨x,t,T,b,rfl,ty,e,q⟩:=h
 obtain ⟨u,v,rfl,ru,rv⟩:=zRr r
 cases rv
 exact zO0 I ru ty e fun tk=>⟨.bl b,H,I.tok tk,rfl,q⟩
end
theorem zSk (K:W.Frag):(∀ t∈["NoneType","bool","int","str","tuple","list","dict"],∀ T∈["bool","int","tuple","list","str","dict"],W.kitOne K (.type t) (.type T)=some (kOf t T)):=by
 intro t ht T hT
 simp only [qB7,qF7,or_false] at ht hT
 rcases ht with rfl | rfl | rfl | rfl | rfl | rfl | rfl <;> rcases hT with rfl | rfl | rfl | rfl | rfl | rfl <;> rfl
mutual
inductive Rp (K:W.Frag) (H:Hp) (a0:Addr→Prop):V→PyData→Prop where
 | non:Rp K H a0 .non .none
 | bl (b:Bool):Rp K H a0 (.bl b) (.bool b)
 | int (i:Int):Rp K H a0 (.int i) (.int i)
 | str (x:Str):Rp K H a0 (.str x) (.str x)
 | tup {p:Addr}{xs:List V}{ds:List PyData} (h:SqT K H p xs) (r:RpL K H a0 xs ds):Rp K H a0 (.ref p) (.tuple ds)
 | lst {p:Addr}{xs:List V}{ds:List PyData} (n:a0 p) (h:SqL K H p xs) (r:RpL K H a0 xs ds):Rp K H a0 (.ref p) (.list ds)
inductive RpL (K:W.Frag) (H:Hp) (a0:Addr→Prop):List V→List PyData→Prop where
 | nil:RpL K H a0 [] []
 | cons {x:V}{xs:List V}{d:PyData}{ds:List PyData} (h:Rp K H a0 x d) (t:RpL K H a0 xs ds):RpL K H a0 (x::xs) (d::ds)
end
noncomputable def C4.d (c:C4):PyData:=.tuple [.int c.a,.int c.b,.int c.k,.int c.o]
open PySem PySem.Spec PyProof.Rows
section
variable {prog:Program}{w:World}{A:Around}{E:Value→Shared→Prop}{s:Shared}
theorem zJO {j t:Addr}{n:Nat}{vs:Array Value}{v:Value}{Q:Value→Shared→Prop} (hj:s.heap.IsTupleIter j t n) (ht:s.heap.IsTuple t vs) (hv:vs[n]?=some v)
  (q:∀ h',h'.IsTupleIter j t (n+1)→qE2 j s.heap h'→Q v { s with heap:=h' }):wpAny (model prog w) A (Builtin.SmallTypes.nextOf (.ref j)) Q E s:=by
 obtain ⟨oj,e1,c1,d1⟩:=id hj
 obtain ⟨ot,e2,_,m,d2⟩:=ht
 unfold Builtin.SmallTypes.nextOf
 refine wpAny_bind (wpAny_callSpecial?_slot (name:=Str.ofString "__next__") hj.typeIs F.slot_tuple_iterator_next (wpAny_call_entry F.slot_tuple_iterator_next hj.typeIs F.entry_tuple_iterator_next ?_ (F.args_tuple_iterator_next_1 _)))
 show wpAny _ _ (field (.ref j) 0 >>= _) _ _ s
 refine wpAny_bind (wpAny_field e1 d1 (x:=.ref t) rfl ?_)
 show wpAny _ _ (if (Value.ref t == Value.none)=true then _ else _) _ _ s
 rw [if_neg (show ¬ ((Value.ref t == Value.none)=true) from fun z=>qA7 z)]
 show wpAny _ _ (field (.ref j) 1 >>= _) _ _ s
 refine wpAny_bind (wpAny_field e1 d1 (x:=.int n 0) rfl ?_)
 show wpAny _ _ (seqItems? (.ref t) >>= _) _ _ s
 refine wpAny_bind (wpAny_seqItems e2 d2 ?_)
 simp only [hv,qE8]
 refine wpAny_bind (wpAny_setField e1 d1 (by simp) (wpAny_pure ⟨v,rfl,wpAny_pure (q _ ?_ (qE2.update ..))⟩))
 refine ⟨_,qI9 _ e1 (Obj.isFreed_of_fields (Obj.data_mapFields d1 _)),(Obj.cls_mapFields ..).trans c1,?_⟩
 rw [Obj.data_mapFields d1]
 simp [rawInt]
theorem zLn {j t:Addr}{n:Nat}{vs:Array Value}{Q:Value→Shared→Prop} (hh:A.handled=none) (hj:s.heap.IsTupleIter j t n) (ht:s.heap.IsTuple t vs) (hv:vs[n]?=none)
  (q:∀ h' e,qO8 j s.heap h'→(∃ o,h'.get? e=some o∧o.cls=.type "StopIteration")→E (.ref e) { s with heap:=h' }):wpAny (model prog w) A (Builtin.SmallTypes.nextOf (.ref j)) Q E s:=by
 obtain ⟨oj,e1,c1,d1⟩:=id hj
 obtain ⟨ot,e2,_,m,d2⟩:=ht
 unfold Builtin.SmallTypes.nextOf
 refine wpAny_bind (wpAny_callSpecial?_slot (name:=Str.ofString "__next__") hj.typeIs F.slot_tuple_iterator_next (wpAny_call_entry F.slot_tuple_iterator_next hj.typeIs F.entry_tuple_iterator_next ?_ (F.args_tuple_iterator_next_1 _)))
 show wpAny _ _ (field (.ref j) 0 >>= _) _ _ s
 refine wpAny_bind (wpAny_field e1 d1 (x:=.ref t) rfl ?_)
 show wpAny _ _ (if (Value.ref t == Value.none)=true then _ else _) _ _ s
 rw [if_neg (show ¬ ((Value.ref t == Value.none)=true) from fun z=>qA7 z)]
 show wpAny _ _ (field (.ref j) 1 >>= _) _ _ s
 refine wpAny_bind (wpAny_field e1 d1 (x:=.int n 0) rfl ?_)
 show wpAny _ _ (seqItems? (.ref t) >>= _) _ _ s
 refine wpAny_bind (wpAny_seqItems e2 d2 ?_)
 simp only [hv,qE8]
 refine wpAny_bind (wpAny_rule (wpAny_bind (wpAny_setField e1 d1 (by simp) ?_)))
 refine wpAny_bind (m:=newExc (.type "StopIteration") []) ?_
 simp only [newTuple,newExc]
 refine wpAny_bind (wpAny_newObj_type ?_ (by size_fits))
 refine wpAny_bind (m:=firstArgMember _ _) (wpAny_of_eq (a:=Value.none) (by first | (simp only [firstArgMember]; rfl) | rfl) ?_)
 refine wpAny_newObj_type ?_ (by size_fits)
 simp only [raiseNew]
 refine wpAny_bind (wpAny_handled ?_)
 first | rw [hh] | rw [show A.in1.handled=none from hh]
 refine wpAny_bind (wpAny_pure (wpAny_throw ?_))
 exact q _ _ (((qE2.update ..).extBut.push _).push _) ⟨_,qB4 _ rfl,rfl⟩
end
theorem zOg {prog:Program}{w:World}{A:Around} (hh:A.handled=none) (j t:Addr) (hne:t≠j) (vs:Array Value) :
  Draws prog w A j [j,t] vs.size (fun i v=>vs[i]?=some v) (fun i h=>h.IsTupleIter j t i∧h.IsTuple t vs) where
 live:=fun _ _ st=>let ⟨o,ho,_⟩:=st.1; ⟨o,ho⟩
 frame:=fun _ _ _ st kk=>⟨st.1.at fun o e=>kk j (by simp) o e,let ⟨o,ho,r⟩:=st.2; ⟨o,kk t (by simp) o ho,r⟩⟩
 item:=fun i s Q E hi st hQ=>zJO st.1 st.2 (v:=vs[i]) (by simp [hi]) fun h' h1 h2=>hQ _ h' s.toks (by simp [hi]) ⟨h1,st.2.extBut h2.extBut hne⟩ h2
 done:=fun s Q E st hE=>zLn hh st.1 st.2 (by simp) hE
theorem zSE (l:Addr) (items:Array Value) (n:Nat) (dct:Option Addr) (sl:Array (Option Value)) :
  Meets (Builtin.«enumerate.__new__» ⟨[.type "enumerate",.ref l],[]⟩) (fun _ R s=>s.heap.get? l=some { cls:=.type "tuple",dict:=dct,data:=.seq items n,slots:=sl } ∧
   R (.ok (.ret (.ref (s.heap.push { cls:=.type "tuple_iterator",data:=.fields #[.ref l,.int 0 0] }).objs.size)))
    { s with heap:=(s.heap.push { cls:=.type "tuple_iterator",data:=.fields #[.ref l,.int 0 0] }).push { cls:=.type "enumerate",data:=.fields #[.none,.bool false,.ref s.heap.objs.size,rawInt 0,.none,.none] } }) :=
 .of_wp fun prog w A R s h=>by
  obtain ⟨hp,g,d,tk,os⟩:=s; obtain ⟨hl,h⟩:=h
  have hsub:=sub_enumerate
  have hT:qH5 (Shared.heap ⟨hp,g,d,tk,os⟩) l items:=⟨_,hl,rfl,n,rfl⟩
  wp_walk using AutoSeq1.wpAny_loadPart' hl
  refine wpAny_stack_any fun st=>wpAny_pure ?_
  split
  ·rename_i c _ _ _ _ _
   cases (c == Value.type "enumerate") <;> (wp_walk using AutoSeq1.wpAny_loadPart' hl,wpAny_pyIter_tuple hT; exact ⟨_,rfl,h⟩)
  ·wp_walk using AutoSeq1.wpAny_loadPart' hl,wpAny_pyIter_tuple hT
   exact ⟨_,rfl,h⟩
open PySem PySem.Spec PyProof.Rows
section
variable {X:Cx}{pins:List (Addr × Obj)}{σ:St}{H:Hp}{s:Shared}
mutual
theorem Inv.reads (I:Inv X pins σ H s) {a0:Addr→Prop}:∀ {x:V}{d:PyData}{u:Value},Rp X.K H a0 x d→RelV x u→∃ as,Reads s.heap u d as
 | _,_,u,.non,r=>by cases (show u=Value.none from r); exact ⟨_,.none⟩
 | _,_,u,.bl b,r=>by cases (show u=Value.bool b from r); exact ⟨_,.bool b⟩
 | _,_,u,.int i,r=>by obtain ⟨t,q⟩:=(show ∃ t,u=Value.int i t from r); cases q; exact ⟨_,.int i t⟩
 | _,_,u,.str y,r=>by obtain ⟨t,q⟩:=(show ∃ t,u=Value.str y t from r); cases q; exact ⟨_,.str y t⟩
 | _,_,u,.tup (p:=p) h rr,r=>by
  cases (show u=Value.ref p from r)
  obtain ⟨its,rv,⟨o,h1,h2,n,h3⟩,_⟩:=I.tuple h
  obtain ⟨as,ra⟩:=I.readsL rr rv
  exact ⟨_,.tuple h1 h2 h3 (by simpa using ra)⟩
 | _,_,u,.lst (p:=p) _ h rr,r=>by
  cases (show u=Value.ref p from r)
  obtain ⟨its,rv,pl,_⟩:=I.list h
  obtain ⟨o,h1,h2,n,h3⟩:=pl.isList
  obtain ⟨as,ra⟩:=I.readsL rr rv
  exact ⟨_,.list h1 h2 h3 (by simpa using ra)⟩
theorem Inv.readsL (I:Inv X pins σ H s) {a0:Addr→Prop}:∀ {xs:List V}{ds:List PyData}{us:List Value},RpL X.K H a0 xs ds→Vals xs us→∃ as,ReadsAll s.heap us ds as
 | _,_,_,.nil,.nil=>⟨_,.nil⟩
 | _,_,_,.cons h t,.cons r rr=>by
  obtain ⟨a1,q1⟩:=I.reads h r
  obtain ⟨a2,q2⟩:=I.readsL t rr
  exact ⟨_,.cons q1 q2⟩
end
def okD (d:PyData):Prop:=d.canLay0=true∧d.depth≤60
theorem zXp (hu:X.A.units+64<cLine):OpR X (compareOp .Eq) (fun x y H Q=>∃ (N N':Addr→Prop) (da db:PyData),Rp X.K H N x da∧Rp X.K H N' y db∧okD da∧okD db∧Q (.bl (PyData.eqv da db)) H):=by
 intro pins s σ H x y v u Q I rx ry h
 obtain ⟨N,N',da,db,hx,hy,o1,o2,q⟩:=h
 obtain ⟨as,ra⟩:=I.reads hx rx
 obtain ⟨bs,rb⟩:=I.reads hy ry
 exact SeqAt.compareEq_reads ra rb o1.1 o2.1 (by have:=o1.2; omega) ⟨.bl _,H,I,rfl,q⟩
theorem zXk (hu:X.A.units+64<cLine):OpR X (compareOp .NotEq) (fun x y H Q=>∃ (N N':Addr→Prop) (da db:PyData),Rp X.K H N x da∧Rp X.K H N' y db∧okD da∧okD db∧Q (.bl (!PyData.eqv da db)) H):=by
 intro pins s σ H x y v u Q I rx ry h
 obtain ⟨N,N',da,db,hx,hy,o1,o2,q⟩:=h
 obtain ⟨as,ra⟩:=I.reads hx rx
 obtain ⟨bs,rb⟩:=I.reads hy ry
 exact SeqAt.compareNe_reads ra rb o1.1 o2.1 (by have:=o1.2; omega) ⟨.bl _,H,I,rfl,q⟩
end
open PySem PySem.Spec PyProof.Rows
def SqX (b:Bool) (K:W.Frag) (H:Hp) (a:Addr) (xs:List V):Prop:=match b with
 | true=>SqT K H a xs
 | false=>SqL K H a xs
def IsX (b:Bool) (h:Heap) (a:Addr) (vs:Array Value):Prop:=match b with
 | true=>h.IsTuple a vs
 | false=>h.IsList a vs
def ItX (b:Bool) (h:Heap) (j a:Addr) (i:Nat):Prop:=match b with
 | true=>h.IsTupleIter j a i
 | false=>h.IsListIter j a i
theorem ItX.obj {b:Bool}{h:Heap}{j a:Addr}{i:Nat} (x:ItX b h j a i):∃ o,h.get? j=some o∧∀ v,o.data≠.cell v:=by
 cases b with
 | true=>obtain ⟨o,h1,_,h2⟩:=(x:h.IsTupleIter j a i); exact ⟨o,h1,fun v q=>by rw [h2] at q; cases q⟩
 | false=>obtain ⟨o,h1,_,h2⟩:=(x:h.IsListIter j a i); exact ⟨o,h1,fun v q=>by rw [h2] at q; cases q⟩
theorem ItX.keep {b:Bool}{h h':Heap}{j a:Addr}{i:Nat} (x:ItX b h j a i) (e:∀ o,h.get? j=some o→h'.get? j=some o):ItX b h' j a i:=by
 cases b with
 | true=>exact Heap.IsTupleIter.at x e
 | false=>exact Heap.IsListIter.at x e
theorem IsX.lt {b:Bool}{h:Heap}{a:Addr}{vs:Array Value} (x:IsX b h a vs):a<h.objs.size:=by
 cases b with
 | true=>obtain ⟨_,e,_⟩:=(x:h.IsTuple a vs); exact qB1 e
 | false=>obtain ⟨_,e,_⟩:=(x:h.IsList a vs); exact qB1 e
theorem zGh {prog:Program}{w:World}{A:Around} (b:Bool) (hh:A.handled=none) (j t:Addr) (hne:t≠j) (vs:Array Value) :
  Draws prog w A j [j,t] vs.size (fun i v=>vs[i]?=some v) (fun i h=>ItX b h j t i∧IsX b h t vs):=by
 cases b with
 | true=>exact zOg hh j t hne vs
 | false=>exact Draws.list hh j t hne vs
section
variable {X:Cx}{pins:List (Addr × Obj)}{σ:St}{H:Hp}{s:Shared}
theorem Inv.sqX (I:Inv X pins σ H s) {b:Bool}{a:Addr}{xs:List V} (h:SqX b X.K H a xs):∃ its,Vals xs its∧IsX b s.heap a its.toArray:=by
 cases b with
 | true=>obtain ⟨its,r,p,_⟩:=I.tuple h; exact ⟨its,r,p⟩
 | false=>obtain ⟨its,r,p,_⟩:=I.list h; exact ⟨its,r,p.isList⟩
theorem Inv.sqX_inj (I:Inv X pins σ H s) {b:Bool}{a:Addr}{xs ys:List V} (h:SqX b X.K H a xs) (h':SqX b X.K H a ys):xs=ys:=by
 cases b with
 | true=>exact I.tuple_inj h h'
 | false=>exact I.list_inj h h'
end
noncomputable def IteX (b:Bool) (K:W.Frag) (a:Addr):It :=
  ⟨fun i H=>∃ xs x,SqX b K H a xs∧xs[i]?=some x,
   fun i H v H'=>∃ T,H T=none∧v=.ref T∧∀ xs x,SqX b K H a xs→xs[i]?=some x→H'=upd H T (.tup [.int i,x]),
   fun i H=>∃ xs,SqX b K H a xs∧i=xs.length⟩
theorem allN {P:Addr→Prop}:∀ x∈([]:List Addr),P x:=fun _ h=>by cases h
theorem allC {P:Addr→Prop}{a:Addr}{l:List Addr} (h:P a) (t:∀ x∈l,P x):∀ x∈a::l,P x:=fun x hx=>(qB7.mp hx).elim (fun e=>e▸h) (t x)
theorem zTd {X:Cx}{pins:List (Addr × Obj)}{H:Hp}{T:Addr}{o:HO}{ws:List Addr} (h:∀ b∈ws,FpOk X pins H b) (n:∀ b∈ws,b≠T):∀ b∈ws,FpOk X pins (upd H T o) b:=fun b hb=>⟨by rw [zAi (n b hb)]; exact (h b hb).1,(h b hb).2⟩
structure EsX (b:Bool) (e it a:Addr) (i:Nat) (h:Heap):Prop where
 a1:∃ old,IsEnum h e it (i:Nat) old
 a2:ItX b h it a i
theorem EsX.obj {b:Bool}{e it a:Addr}{i:Nat}{h:Heap} (st:EsX b e it a i h):∀ c∈[e,it],∃ o,h.get? c=some o∧∀ v,o.data≠.cell v:=by
 obtain ⟨_,a1⟩:=st.a1
 exact allC ⟨_,a1,fun v q=>by cases q⟩ (allC st.a2.obj allN)
theorem EsX.ne {b:Bool}{e it a:Addr}{i:Nat}{h:Heap} (st:EsX b e it a i h) {T:Addr} (hT:h.objs.size≤T):∀ c∈[e,it],c≠T:=fun c hc=>by
 obtain ⟨o,z,_⟩:=st.obj c hc
 exact qC3 (qB8 (qB1 z) hT)
theorem zyE {b:Bool}{a:Addr}{i:Nat}{X:Cx}{pins:List (Addr × Obj)}{σ:St}{H:Hp}{s:Shared} (I:Inv X pins σ H s) {xs:List V}{x:V} (q1:SqX b X.K H a xs) (ex:xs[i]?=some x) {T:Addr} (xs':List V) (x':V) (s1:SqX b X.K H a xs') (t1:xs'[i]?=some x'):upd H T (.tup [.int i,x])=upd H T (.tup [.int i,x']):=by
 have h1:=I.sqX_inj q1 s1
 subst h1
 rw [ex] at t1
 cases t1; rfl
theorem zvE {t1:List Value}{u1:Value}{i:Nat}{vals:Array Value} (e1:t1[i]?=some u1) (hv:∃ tt v,t1.toArray[i]?=some v∧vals=#[.int (i:Nat) tt,v]):∃ tt,vals=#[.int (i:Nat) tt,u1]:=by
 obtain ⟨tt,v,g,rfl⟩:=hv
 rw [qK9,e1] at g
 cases g; exact ⟨tt,rfl⟩
theorem zIn {P:Program}{w:World}{K:PySem.W.Frag}{elts:List Expr}{k:Nat}{pos:Pos} (b:Bool) (e it a:Addr) (hei:e≠it) (hea:e≠a) (hai:a≠it) :
  Turn P w K (.Tuple elts k pos) (IteX b K a) [e,it] e (EsX b e it a) where
 mem:=by simp
 obj:=fun i h st=>st.obj
 keep:=fun i h h' ⟨⟨old,h1⟩,h2⟩ kk=>⟨⟨old,kk e (by simp) _ h1⟩,h2.keep fun o z=>kk it (by simp) o z⟩
 item:=by
  intro X hP hw hK hc i pins s σ H E I hf st hg
  subst hP hw hK
  obtain ⟨xs,x,q1,ex⟩:=hg
  obtain ⟨its1,r1,p1⟩:=I.sqX q1
  obtain ⟨u1,e1,ru1⟩:=r1.get ex
  have D:=zGh (prog:=X.prog) (w:=X.w) (A:=X.A.in1) b (show X.A.in1.handled=none from I.ok.hd hc) it a hai its1.toArray
  have W:=WalksT.enumerateD (A:=X.A) D e hei (by simp [hei,hea]) (by simp)
  have hl1:i<its1.length:=(qA5.mp e1).1
  refine W.item i s _ _ (by simp only [qA8]; omega) ⟨st.1,st.2,p1⟩ fun T vals h' tk hv hT hIs hM kk=>?_
  obtain ⟨tt,hvv⟩:=zvE e1 hv
  subst hvv
  have nT:=st.ne hT
  refine ⟨_,rfl,W.go _ _ _ i T { s with heap:=h',toks:=tk } _ _ hM fun h2 st2 kk2=>?_⟩
  have I1:Inv X pins σ (upd H T (.tup [.int i,x])) { s with heap:=h',toks:=tk }:=I.yields (its:=[.int i tt,u1]) hf kk hT (.cons ⟨tt,rfl⟩ (.cons ru1 .nil)) (by show 2≤sizeLine; decide) hIs
  exact ⟨.ref T,_,I1.turnedL (tk:=tk) (zTd hf nT) kk2,rfl,⟨T,I.hok.fresh hT,rfl,zyE I q1 ex⟩,⟨st2.1,st2.2.1⟩,fun c hc=>by rw [zAi (nT c hc)]; exact (hf c hc).1⟩
 done:=by
  intro X hP hw hK hc i pins s σ H E I hf st hg
  subst hP hw hK
  obtain ⟨xs,q1,ei⟩:=hg
  obtain ⟨its1,r1,p1⟩:=I.sqX q1
  have D:=zGh (prog:=X.prog) (w:=X.w) (A:=X.A.in1) b (show X.A.in1.handled=none from I.ok.hd hc) it a hai its1.toArray
  have W:=WalksT.enumerateD (A:=X.A) D e hei (by simp [hei,hea]) (by simp)
  have en:i=its1.toArray.size:=by rw [qA8,← r1.length]; exact ei
  refine W.done s _ _ (by rw [← en]; exact ⟨st.1,st.2,p1⟩) fun h' tk kk=>?_
  exact ⟨rfl,I.turnedL hf kk⟩
 self:=fun _ _ _ _ _ st h=>let ⟨⟨_,z⟩,_⟩:=st; wpAny_pyIter_enum z h
section
variable {X:Cx}
noncomputable def zTc (K:W.Frag) (ta:TA):TI:=fun σ H R=>ta σ H fun vs H1=>∃ a,vs=[.ref a]∧((∃ xs,SqT K H1 a xs)∧R (IteX true K a) H1∨(∃ xs,SqL K H1 a xs)∧R (IteX false K a) H1)
theorem zRV {elts:List Expr}{k:Nat}{tpos:Pos}{a:Expr}{ta:TA}{p pos:Pos} (hg:Gl X "enumerate") (hm:X.mg "enumerate"=none) (ha:PA X [a] ta) (hs:starEach [a] X.env=[(false,eval a X.env)]:=by rfl) :
  PI X (.Tuple elts k tpos) (.Call (.Name "enumerate" p) [a] [] pos) (zTc X.K ta):=by
 intro pins s σ H R I h
 refine Call_ (zFf I hg hm zL2 (PyProof.Rows.callWith_type1 (thn (ha pos pins s σ H _ I h) fun us s1 ⟨vs,H1,I1,r1,q1⟩=>?_) (by rw [hs]; rfl) (by rfl)))
 obtain ⟨t,e,q⟩:=q1
 subst e
 rcases q with ⟨⟨xs,h1⟩,q⟩ | ⟨⟨xs,h1⟩,q⟩
 ·cases r1 with
  | cons r rr =>
   cases rr
   cases r
   obtain ⟨its1,v1,p1,z1⟩:=I1.tuple h1
   obtain ⟨⟨c,dct,dt,sl⟩,hl,hc,n,hd⟩:=id p1
   replace hc:c=.type "tuple":=hc
   replace hd:dt=.seq its1.toArray n:=hd
   subst hc hd
   have hlt:t<s1.heap.objs.size:=qB1 hl
   refine callType_new PySem.F.called_enumerate (by decide) (PySem.F.typeCall_enumerate_1 _) (PySem.F.newCall_enumerate_1 _) (fun obj=>PySem.F.args_object_init_2 obj _) PySem.F.entry_enumerate_new (zSE t its1.toArray n dct sl) ⟨hl,?_⟩
   have hz:(s1.heap.push { cls:=.type "tuple_iterator",data:=.fields #[.ref t,.int 0 0] }).objs.size=s1.heap.objs.size+1:=qF0 ..
   show _∧_
   rw [hz]
   have he:IsEnum ((s1.heap.push { cls:=.type "tuple_iterator",data:=.fields #[.ref t,.int 0 0] }).push { cls:=.type "enumerate",data:=.fields #[.none,.bool false,.ref s1.heap.objs.size,rawInt 0,.none,.none] }) (s1.heap.objs.size+1) s1.heap.objs.size 0 .none:=by
    have z:=qB4 (s1.heap.push { cls:=.type "tuple_iterator",data:=.fields #[.ref t,.int 0 0] }) (o:={ cls:=.type "enumerate",data:=.fields #[.none,.bool false,.ref s1.heap.objs.size,rawInt 0,.none,.none] }) rfl
    rw [hz] at z
    exact z
   refine ⟨⟨_,he,rfl⟩,?_⟩
   refine wpAny_pyIter_enum he ?_
   have kp:∀ b o,s1.heap.get? b=some o→((s1.heap.push { cls:=.type "tuple_iterator",data:=.fields #[.ref t,.int 0 0] }).push { cls:=.type "enumerate",data:=.fields #[.none,.bool false,.ref s1.heap.objs.size,rawInt 0,.none,.none] }).get? b=some o:=fun b o x=>qA4 _ (qA4 _ x)
   refine ⟨_,_,_,_,H1,rfl,I1.kept (t':=s1.toks) kp,zIn true (s1.heap.objs.size+1) s1.heap.objs.size t (qQ6 _) (qH2 (qG0 hlt)) (qC3 hlt),⟨⟨_,he⟩,⟨_,qA4 _ (qB4 _ rfl),rfl,rfl⟩⟩,fun b hb=>?_,q⟩
   have hle:s1.heap.objs.size≤b:=by
    simp only [qB7,qF7,or_false] at hb
    rcases hb with rfl | rfl
    ·exact qN3 _
    ·exact qB0 _
   exact I1.fpOk hle (I1.hok.fresh hle)
 ·cases r1 with
  | cons r rr =>
   cases rr
   cases r
   obtain ⟨its1,v1,p1,z1⟩:=I1.list h1
   have hlt:t<s1.heap.objs.size:=by obtain ⟨_,e,_⟩:=p1.isList; exact qB1 e
   refine call_enumerate_list p1.isList fun h' he hi hsz hk=>?_
   refine wpAny_pyIter_enum he ?_
   refine ⟨_,_,_,_,H1,rfl,I1.kept (t':=s1.toks) hk,zIn false (s1.heap.objs.size+1) s1.heap.objs.size t (qQ6 _) (qH2 (qG0 hlt)) (qC3 hlt),⟨⟨_,he⟩,hi⟩,fun b hb=>?_,q⟩
   have hle:s1.heap.objs.size≤b:=by
    simp only [qB7,qF7,or_false] at hb
    rcases hb with rfl | rfl
    ·exact qN3 _
    ·exact qB0 _
   exact I1.fpOk hle (I1.hok.fresh hle)
end
section
variable {X:Cx}
theorem zGa {h:Heap}:∀ {ds:List PyData}{us:List Value}{as:List Addr}{i:Nat}{u:Value},ReadsAll h us ds as→us[i]?=some u→∃ d bs,ds[i]?=some d∧Reads h u d bs
 | _,_,_,i,u,.nil,e=>by simp at e
 | _,_,_,0,u,.cons r rr,e=>by simp at e; subst e; exact ⟨_,_,rfl,r⟩
 | _,_,_,i+1,u,.cons r rr,e=>by
  rw [qE1] at e
  obtain ⟨d,bs,h1,h2⟩:=zGa rr e
  exact ⟨d,bs,by rw [qE1]; exact h1,h2⟩
open Classical in
noncomputable def eqW (h:Heap) (dx:PyData) (y:Value):Bool:=decide (∃ d as,Reads h y d as∧d.canLay0=true∧PyData.eqv d dx=true)
theorem zTg {h:Heap}{dx d:PyData}{y:Value}{as:List Addr} (r:Reads h y d as) (c:d.canLay0=true):eqW h dx y=PyData.eqv d dx:=by
 classical
 unfold eqW
 cases q:PyData.eqv d dx with
 | true=>exact decide_eq_true ⟨d,as,r,c,q⟩
 | false =>
  refine decide_eq_false ?_
  rintro ⟨d',as',r',c',q'⟩
  have:=SeqAt.Reads.unique d d' y as as' c r r'
  subst this
  rw [q] at q'; cases q'
end
open PySem PySem.Spec PyProof.Rows
structure ZAp (z TI TO i1 i2:Addr) (f1 f2:List Addr):Prop where
 TIz:TI≠z
 TOz:TO≠z
 i1z:i1≠z
 i2z:i2≠z
 TITO:TI≠TO
 TIi1:TI≠i1
 TIi2:TI≠i2
 TOi1:TO≠i1
 TOi2:TO≠i2
 i12:i1≠i2
 z1:z∉f1
 z2:z∉f2
 O1:TO∉f1
 O2:TO∉f2
 j1:i2∉f1
 j2:i1∉f2
section
variable {prog:Program}{w:World}{A:Around}{E:Value→Shared→Prop}{s:Shared}
variable {z TI TO i1 i2:Addr}{f1 f2:List Addr}{n1 n2 k:Nat}{P1 P2:Nat→Value→Prop}{S1 S2:Nat→Heap→Prop}
theorem Draws.sb {j c:Addr}{fp:List Addr}{n i:Nat}{P:Nat→Value→Prop}{St:Nat→Heap→Prop}{h h':Heap} (D:Draws prog w A j fp n P St) (st:St i h) (sb:qE2 c h h') (hc:c∉fp):St i h' :=
 D.frame _ _ _ st fun b hb o e=>sb.extBut b o (fun q=>hc (q▸hb)) e
theorem zIV {Q:Fin→Shared→Prop}{a b:Value} (hz:IsZip s.heap z TI TO .none) (hTI:IsPair s.heap TI (.ref i1) (.ref i2)) (hTO:IsPair s.heap TO a b) (hh:A.handled=none)
  (D1:∀ A:Around,A.handled=none→Draws prog w A i1 f1 n1 P1 S1) (D2:∀ A:Around,A.handled=none→Draws prog w A i2 f2 n2 P2 S2) (ap:ZAp z TI TO i1 i2 f1 f2) (h1:S1 k s.heap) (h2:S2 k s.heap)
  (hQ:k<n1→k<n2→∀ x y h' tk,P1 k x→P2 k y→IsZip h' z TI TO (rawInt s.heap.objs.size)→IsPair h' TO x y→S1 (k+1) h'→S2 (k+1) h'→IsPair h' s.heap.objs.size x y→h'.objs.size=s.heap.objs.size+1 →
   (∀ c o,c≠z→c≠TO→c≠i1→c≠i2→s.heap.get? c=some o→h'.get? c=some o)→Q (.done (.ret (.ref s.heap.objs.size))) { s with heap:=h',toks:=tk })
  (hE:(k=n1∨k=n2)→∀ h' e tk,(∀ c o,c≠z→c≠TO→c≠i1→c≠i2→s.heap.get? c=some o→h'.get? c=some o)→(∃ o,h'.get? e=some o∧o.cls=.type "StopIteration")→E (.ref e) { s with heap:=h',toks:=tk })
  (hk1:k≤n1) (hk2:k≤n2):wpAny (model prog w) A (Builtin.«zip.__next__» ⟨[.ref z],[]⟩) Q E s:=by
 show wpAny _ _ (field (.ref z) 2 >>= _) _ _ _
 refine wpAny_bind (wpAny_field hz rfl (x:=.bool false) rfl ?_)
 show wpAny _ _ (field (.ref z) 3 >>= _) _ _ _
 refine wpAny_bind (wpAny_field hz rfl (x:=.ref TI) rfl ?_)
 refine wpAny_bind (wpAny_seqItems hTI rfl ?_)
 show wpAny _ _ (Builtin.SmallTypes.ownedTupleIsFree (.ref z) >>= _) _ _ _
 refine wpAny_bind ?_
 unfold Builtin.SmallTypes.ownedTupleIsFree
 refine wpAny_bind (wpAny_field hz rfl (x:=.none) rfl (wpAny_pure ?_))
 simp only [if_true]
 refine wpAny_bind (wpAny_rule ?_)
 refine wpAny_bind (wpAny_field hz rfl (x:=.ref TO) rfl ?_)
 refine wpAny_bind (wpAny_setField_rec hz (by simp) fun ha za sa=>?_)
 replace za:IsZip ha z TI TO .ellipsis:=za
 have s1a:S1 k ha:=Draws.sb (D1 A hh) h1 sa ap.z1
 have s2a:S2 k ha:=Draws.sb (D2 A hh) h2 sa ap.z2
 have oa:IsPair ha TO a b:=sa.extBut _ _ ap.TOz hTO
 refine wpAny_bind ?_
 simp only [List.zipIdx_cons,List.zipIdx_nil,qO2,qO7]
 refine wpAny_bind (wpAny_bind (wpAny_onRaise ?_))
 show wpAny _ _ (Builtin.SmallTypes.nextOf (.ref i1) >>= _) _ _ _
 by_cases l1:k<n1
 ·refine wpAny_bind ((D1 _ hh).item k _ _ _ l1 s1a fun x hb tb px s1b sb=>wpAny_pure ?_)
  have ob:IsPair hb TO a b:=sb.extBut _ _ ap.TOi1 oa
  have s2b:S2 k hb:=Draws.sb (D2 A hh) s2a sb ap.j2
  have zb:IsZip hb z TI TO .ellipsis:=sb.extBut _ _ ap.i1z.symm za
  refine wpAny_bind (wpAny_seqItems ob rfl ?_)
  refine wpAny_bind (wpAny_updateSeq_pair ob fun hc oc sc=>?_)
  replace oc:IsPair hc TO x b:=oc
  have s1c:S1 (k+1) hc:=Draws.sb (D1 A hh) s1b sc ap.O1
  have s2c:S2 k hc:=Draws.sb (D2 A hh) s2b sc ap.O2
  have zc:IsZip hc z TI TO .ellipsis:=sc.extBut _ _ ap.TOz.symm zb
  refine wpAny_bind (wpAny_letGo (wpAny_pure ?_))
  refine wpAny_bind (wpAny_bind (wpAny_onRaise ?_))
  show wpAny _ _ (Builtin.SmallTypes.nextOf (.ref i2) >>= _) _ _ _
  by_cases l2:k<n2
  ·refine wpAny_bind ((D2 _ hh).item k _ _ _ l2 s2c fun y hd td py s2d sd=>wpAny_pure ?_)
   have od:IsPair hd TO x b:=sd.extBut _ _ ap.TOi2 oc
   have s1d:S1 (k+1) hd:=Draws.sb (D1 A hh) s1c sd ap.j1
   have zd:IsZip hd z TI TO .ellipsis:=sd.extBut _ _ ap.i2z.symm zc
   refine wpAny_bind (wpAny_seqItems od rfl ?_)
   refine wpAny_bind (wpAny_updateSeq_pair od fun he oe se=>?_)
   replace oe:IsPair he TO x y:=oe
   have s1e:S1 (k+1) he:=Draws.sb (D1 A hh) s1d se ap.O1
   have s2e:S2 (k+1) he:=Draws.sb (D2 A hh) s2d se ap.O2
   have ze:IsZip he z TI TO .ellipsis:=se.extBut _ _ ap.TOz.symm zd
   refine wpAny_bind (wpAny_letGo (wpAny_pure (wpAny_pure ?_)))
   refine wpAny_bind (wpAny_seqItems oe rfl ?_)
   refine wpAny_bind (wpAny_newTuple ?_)
   have hsz:he.objs.size=s.heap.objs.size:=by rw [se.1,sd.1,sc.1,sb.1,sa.1]
   have kp:∀ c o,c≠z→c≠TO→c≠i1→c≠i2→s.heap.get? c=some o→he.get? c=some o:=fun c o c1 c2 c3 c4 e =>
    se.extBut _ _ c2 (sd.extBut _ _ c4 (sc.extBut _ _ c2 (sb.extBut _ _ c3 (sa.extBut _ _ c1 e))))
   have zlt:z<he.objs.size:=qB1 ze
   show wpAny _ _ (Builtin.SmallTypes.ownedTupleHandOut (.ref z) (.ref he.objs.size) >>= _) _ _ _
   refine wpAny_bind ?_
   unfold Builtin.SmallTypes.ownedTupleHandOut
   have zf:IsZip (he.push { cls:=.type "tuple",data:=.seq #[x,y] }) z TI TO .ellipsis:=qA4 _ ze
   refine wpAny_bind (wpAny_setField_rec zf (by simp) fun hg zg sg=>?_)
   replace zg:IsZip hg z TI TO (rawInt he.objs.size):=zg
   refine wpAny_setField_rec zg (by simp) fun hi zi si=>?_
   replace zi:IsZip hi z TI TO (rawInt he.objs.size):=zi
   have up:∀ c o,c≠z→he.get? c=some o→hi.get? c=some o:=fun c o c1 e=>si.extBut _ _ c1 (sg.extBut _ _ c1 (qA4 _ e))
   have tz:IsPair hi he.objs.size x y:=si.extBut _ _ (qH2 zlt) (sg.extBut _ _ (qH2 zlt) (qB4 _ rfl))
   have zz:hi.objs.size=he.objs.size+1:=by rw [si.1,sg.1,qF0]
   have s1i:S1 (k+1) hi:=(D1 A hh).frame _ _ _ s1e fun b hb o e=>up b o (fun q=>ap.z1 (q▸hb)) e
   have s2i:S2 (k+1) hi:=(D2 A hh).frame _ _ _ s2e fun b hb o e=>up b o (fun q=>ap.z2 (q▸hb)) e
   rw [hsz] at zi tz zz
   refine wpAny_pure ?_
   show Q (.done (.ret (.ref he.objs.size))) _
   rw [hsz]
   exact hQ l1 l2 x y hi td px py zi (up _ _ ap.TOz oe) s1i s2i tz zz fun c o c1 c2 c3 c4 e=>up c o c1 (kp c o c1 c2 c3 c4 e)
  ·have e2:k=n2:=qI8 hk2 (qJ5 l2)
   refine wpAny_bind ((D2 _ hh).done _ _ _ (e2▸s2c) fun hd e sd he=>?_)
   obtain ⟨oe,hoe,hce⟩:=he
   have zd:IsZip hd z TI TO .ellipsis:=sd _ _ ap.i2z.symm zc
   have hez:e≠z:=fun q=>by subst q; rw [zd] at hoe; cases hoe; simp at hce
   refine wpAny_setField_rec zd (by simp) fun hf _ sf=>hE (.inr e2) hf e tb (fun c o c1 c2 c3 c4 q=>sf.extBut _ _ c1 (sd _ _ c4 (sc.extBut _ _ c2 (sb.extBut _ _ c3 (sa.extBut _ _ c1 q))))) ⟨oe,sf.extBut _ _ hez hoe,hce⟩
 ·have e1:k=n1:=qI8 hk1 (qJ5 l1)
  refine wpAny_bind ((D1 _ hh).done _ _ _ (e1▸s1a) fun hd e sd he=>?_)
  obtain ⟨oe,hoe,hce⟩:=he
  have zd:IsZip hd z TI TO .ellipsis:=sd _ _ ap.i1z.symm za
  have hez:e≠z:=fun q=>by subst q; rw [zd] at hoe; cases hoe; simp at hce
  exact wpAny_setField_rec zd (by simp) fun hf _ sf=>hE (.inl e1) hf e s.toks (fun c o c1 _ c3 _ q=>sf.extBut _ _ c1 (sd _ _ c3 (sa.extBut _ _ c1 q))) ⟨oe,sf.extBut _ _ hez hoe,hce⟩
theorem WalksT.zipD (hh:A.handled=none) (D1:∀ A:Around,A.handled=none→Draws prog w A i1 f1 n1 P1 S1) (D2:∀ A:Around,A.handled=none→Draws prog w A i2 f2 n2 P2 S2) (ap:ZAp z TI TO i1 i2 f1 f2) (m1:i1∈f1) (m2:i2∈f2) :
  WalksT prog w A z (z::TI::TO::f1++f2) [z,TO,i1,i2] (min n1 n2) (fun i vals=>∃ x y,P1 i x∧P2 i y∧vals=#[x,y])
   (fun i h=>IsZip h z TI TO .none∧IsPair h TI (.ref i1) (.ref i2)∧(∃ a b,IsPair h TO a b)∧S1 i h∧S2 i h)
   (fun i T h=>IsZip h z TI TO (rawInt T)∧IsPair h TI (.ref i1) (.ref i2)∧(∃ a b,IsPair h TO a b)∧S1 (i+1) h∧S2 (i+1) h∧T≠z∧T≠TO∧T≠i1∧T≠i2) where
 sub:=fun c hc=>by simp at hc ⊢; rcases hc with rfl | rfl | rfl | rfl <;> simp [m1,m2]
 frame:=fun i h h' hst hk=>by
  obtain ⟨hz,hTI,⟨a,b,hTO⟩,h1,h2⟩:=hst
  exact ⟨hk z (by simp) _ hz,hk TI (by simp) _ hTI,⟨a,b,hk TO (by simp) _ hTO⟩,(D1 A hh).frame _ _ _ h1 fun b hb o e=>hk b (by simp [hb]) o e,(D2 A hh).frame _ _ _ h2 fun b hb o e=>hk b (by simp [hb]) o e⟩
 item:=fun i s Q E hi hst hQ=>by
  obtain ⟨hz,hTI,⟨a,b,hTO⟩,h1,h2⟩:=hst
  have hT:s.TypeIs (.ref z) "zip":=⟨_,hz,rfl⟩
  have lt:∀ {c o},s.heap.get? c=some o→s.heap.objs.size≠c:=fun e=>qH2 (qB1 e)
  unfold pyNext
  refine wpAny_bind (wpAny_attempt (wpAny_callSpecial?_slot (name:=Str.ofString "__next__") hT F.slot_zip_next
   (wpAny_call_entry F.slot_zip_next hT F.entry_zip_next (zIV hz hTI hTO hh D1 D2 ap h1 h2 (fun _ _ x y h' tk px py a1 a2 a3 a4 a5 a6 hk=>⟨_,rfl,wpAny_pure ?_⟩) (fun q=>by omega) (by omega) (by omega)) (F.args_zip_next_1 _))))
  refine hQ s.heap.objs.size #[x,y] h' tk ⟨x,y,px,py,rfl⟩ (qB0 _) ⟨_,a5,rfl,_,rfl⟩ ⟨a1,hk _ _ ap.TIz ap.TITO ap.TIi1 ap.TIi2 hTI,⟨_,_,a2⟩,a3,a4,lt hz,lt hTO,?_,?_⟩
   fun c o hc e=>hk c o (fun x=>hc (by simp [x])) (fun x=>hc (by simp [x])) (fun x=>hc (by simp [x])) (fun x=>hc (by simp [x])) e
  ·obtain ⟨_,e⟩:=(D1 A hh).live _ _ h1; exact lt e
  ·obtain ⟨_,e⟩:=(D2 A hh).live _ _ h2; exact lt e
 go:=fun elts k pos i T s Q E hm hQ=>by
  obtain ⟨hz,hTI,⟨a,b,hTO⟩,h1,h2,_⟩:=hm
  refine wpAny_letOwnedTupleGo_zip hz fun h' hz' hs'=>hQ h' ⟨hz',hs'.extBut _ _ ap.TIz hTI,⟨a,b,hs'.extBut _ _ ap.TOz hTO⟩,Draws.sb (D1 A hh) h1 hs' ap.z1,Draws.sb (D2 A hh) h2 hs' ap.z2⟩ fun c o hc e=>hs'.extBut _ _ (fun x=>hc (by simp [x])) e
 apart:=fun i T h hm hT=>by
  obtain ⟨_,_,_,_,_,t1,t2,t3,t4⟩:=hm
  simp at hT
  rcases hT with rfl | rfl | rfl | rfl
  ·exact t1 rfl
  ·exact t2 rfl
  ·exact t3 rfl
  ·exact t4 rfl
 done:=fun s Q E hst hQ=>by
  obtain ⟨hz,hTI,⟨a,b,hTO⟩,h1,h2⟩:=hst
  have hT:s.TypeIs (.ref z) "zip":=⟨_,hz,rfl⟩
  unfold pyNext
  refine wpAny_bind (wpAny_attempt (wpAny_callSpecial?_slot (name:=Str.ofString "__next__") hT F.slot_zip_next
   (wpAny_call_entry F.slot_zip_next hT F.entry_zip_next (zIV hz hTI hTO hh D1 D2 ap h1 h2 (fun q1 q2=>by omega) (fun _ h' e tk hk he=>?_) (by omega) (by omega)) (F.args_zip_next_1 _))))
  obtain ⟨o,ho,hc⟩:=he
  refine wpAny_bind (wpAny_isInstance (T := "StopIteration") (b:=true) ⟨o,ho,hc⟩ isSubtype_stop ?_)
  exact wpAny_pure (hQ _ _ fun c o hc e=>hk c o (fun x=>hc (by simp [x])) (fun x=>hc (by simp [x])) (fun x=>hc (by simp [x])) (fun x=>hc (by simp [x])) e)
 self:=fun i s Q E hst hQ=>wpAny_pyIter_zip hst.1 hQ
end
open PySem PySem.Spec PyProof.Rows
noncomputable def itO (b:Bool) (l:Addr):Obj:={ cls:=.type (if b then "tuple_iterator" else "list_iterator"),data:=.fields #[.ref l,.int 0 0] }
noncomputable abbrev zq2 (h:Heap) (b1 b2:Bool) (l1 l2:Addr):Heap:=(h.push (itO b1 l1)).push (itO b2 l2)
noncomputable abbrev zq3 (h:Heap) (b1 b2:Bool) (l1 l2:Addr):Heap:=(zq2 h b1 b2 l1 l2).push { cls:=.type "tuple",data:=.seq #[.ref h.objs.size,.ref (h.push (itO b1 l1)).objs.size] }
noncomputable abbrev zq4 (h:Heap) (b1 b2:Bool) (l1 l2:Addr):Heap:=(zq3 h b1 b2 l1 l2).push { cls:=.type "tuple",data:=.seq #[.none,.none] }
noncomputable abbrev zq5 (h:Heap) (b1 b2:Bool) (l1 l2:Addr):Heap:=(zq4 h b1 b2 l1 l2).push { cls:=.type "zip",data:=.fields #[.none,.bool false,.bool false,.ref (zq2 h b1 b2 l1 l2).objs.size,.ref (zq3 h b1 b2 l1 l2).objs.size] }
theorem zOF (l1 l2:Addr) (xs ys:Array Value) :
  Meets (Builtin.«zip.__new__» ⟨[.type "zip",.ref l1,.ref l2],[]⟩) (fun _ R s=>s.heap.IsTuple l1 xs∧s.heap.IsTuple l2 ys ∧
   R (.ok (.ret (.ref (zq4 s.heap true true l1 l2).objs.size))) { s with heap:=zq5 s.heap true true l1 l2 }) :=
 .of_wp fun prog w A R s h=>by
  obtain ⟨hp,g,d,tk,os⟩:=s; obtain ⟨hl1,hl2,h⟩:=h
  have hsub:=sub_zip
  have hL1:qH5 (Shared.heap ⟨hp,g,d,tk,os⟩) l1 xs:=hl1
  have hL2:qH5 (Shared.heap ⟨hp.push { cls:=.type "tuple_iterator",data:=.fields #[.ref l1,.int 0 0] },g,d,tk,os⟩) l2 ys:=qH5.push hl2 _
  wp_walk using wpAny_pyIter_tuple hL1,wpAny_pyIter_tuple hL2
  exact ⟨_,rfl,h⟩
theorem zOG (l1 l2:Addr) (xs ys:Array Value) :
  Meets (Builtin.«zip.__new__» ⟨[.type "zip",.ref l1,.ref l2],[]⟩) (fun _ R s=>s.heap.IsTuple l1 xs∧s.heap.IsList l2 ys ∧
   R (.ok (.ret (.ref (zq4 s.heap true false l1 l2).objs.size))) { s with heap:=zq5 s.heap true false l1 l2 }) :=
 .of_wp fun prog w A R s h=>by
  obtain ⟨hp,g,d,tk,os⟩:=s; obtain ⟨hl1,hl2,h⟩:=h
  have hsub:=sub_zip
  have hL1:qH5 (Shared.heap ⟨hp,g,d,tk,os⟩) l1 xs:=hl1
  have hL2:qJ3 (Shared.heap ⟨hp.push { cls:=.type "tuple_iterator",data:=.fields #[.ref l1,.int 0 0] },g,d,tk,os⟩) l2 ys:=qJ3.push hl2 _
  wp_walk using wpAny_pyIter_tuple hL1,wpAny_pyIter_list hL2
  exact ⟨_,rfl,h⟩
theorem zOH (l1 l2:Addr) (xs ys:Array Value) :
  Meets (Builtin.«zip.__new__» ⟨[.type "zip",.ref l1,.ref l2],[]⟩) (fun _ R s=>s.heap.IsList l1 xs∧s.heap.IsTuple l2 ys ∧
   R (.ok (.ret (.ref (zq4 s.heap false true l1 l2).objs.size))) { s with heap:=zq5 s.heap false true l1 l2 }) :=
 .of_wp fun prog w A R s h=>by
  obtain ⟨hp,g,d,tk,os⟩:=s; obtain ⟨hl1,hl2,h⟩:=h
  have hsub:=sub_zip
  have hL1:qJ3 (Shared.heap ⟨hp,g,d,tk,os⟩) l1 xs:=hl1
  have hL2:qH5 (Shared.heap ⟨hp.push { cls:=.type "list_iterator",data:=.fields #[.ref l1,.int 0 0] },g,d,tk,os⟩) l2 ys:=qH5.push hl2 _
  wp_walk using wpAny_pyIter_list hL1,wpAny_pyIter_tuple hL2
  exact ⟨_,rfl,h⟩
theorem zOI (l1 l2:Addr) (xs ys:Array Value) :
  Meets (Builtin.«zip.__new__» ⟨[.type "zip",.ref l1,.ref l2],[]⟩) (fun _ R s=>s.heap.IsList l1 xs∧s.heap.IsList l2 ys ∧
   R (.ok (.ret (.ref (zq4 s.heap false false l1 l2).objs.size))) { s with heap:=zq5 s.heap false false l1 l2 }) :=
 .of_wp fun prog w A R s h=>by
  obtain ⟨hp,g,d,tk,os⟩:=s; obtain ⟨hl1,hl2,h⟩:=h
  have hsub:=sub_zip
  have hL1:qJ3 (Shared.heap ⟨hp,g,d,tk,os⟩) l1 xs:=hl1
  have hL2:qJ3 (Shared.heap ⟨hp.push { cls:=.type "list_iterator",data:=.fields #[.ref l1,.int 0 0] },g,d,tk,os⟩) l2 ys:=qJ3.push hl2 _
  wp_walk using wpAny_pyIter_list hL1,wpAny_pyIter_list hL2
  exact ⟨_,rfl,h⟩
theorem zRm (b1 b2:Bool) (l1 l2:Addr) (xs ys:Array Value) :
  Meets (Builtin.«zip.__new__» ⟨[.type "zip",.ref l1,.ref l2],[]⟩) (fun _ R s=>IsX b1 s.heap l1 xs∧IsX b2 s.heap l2 ys ∧
   R (.ok (.ret (.ref (zq4 s.heap b1 b2 l1 l2).objs.size))) { s with heap:=zq5 s.heap b1 b2 l1 l2 }):=by
 cases b1 with
 | true=>cases b2 with
  | true=>exact zOF l1 l2 xs ys
  | false=>exact zOG l1 l2 xs ys
 | false=>cases b2 with
  | true=>exact zOH l1 l2 xs ys
  | false=>exact zOI l1 l2 xs ys
theorem zQb {b:Bool}{h:Heap}{j l:Addr} (e:h.get? j=some (itO b l)):ItX b h j l 0:=by
 cases b with
 | true=>exact ⟨_,e,rfl,rfl⟩
 | false=>exact ⟨_,e,rfl,rfl⟩
theorem zN4 (b:Bool) (l:Addr):(itO b l).isFreed=false:=by cases b <;> rfl
section
variable {prog:Program}{w:World}{A:Around}{E:Value→Shared→Prop}{s:Shared}
theorem zKT {b1 b2:Bool}{l1 l2:Addr}{xs ys:Array Value}{Q:Value→Shared→Prop} (hl1:IsX b1 s.heap l1 xs) (hl2:IsX b2 s.heap l2 ys)
  (h:∀ h',IsZip h' (s.heap.objs.size+4) (s.heap.objs.size+2) (s.heap.objs.size+3) .none→IsPair h' (s.heap.objs.size+2) (.ref s.heap.objs.size) (.ref (s.heap.objs.size+1)) →
   IsPair h' (s.heap.objs.size+3) .none .none→ItX b1 h' s.heap.objs.size l1 0→ItX b2 h' (s.heap.objs.size+1) l2 0 →
   (∀ c o,s.heap.get? c=some o→h'.get? c=some o)→Q (.ref (s.heap.objs.size+4)) { s with heap:=h' }) :
  wpAny (model prog w) A (call (.type "zip") [.ref l1,.ref l2]) Q E s:=by
 refine callType_new F.called_zip (by decide) (F.typeCall_zip_2 _ _) (F.newCall_zip_2 _ _) (fun obj=>F.args_object_init_3 obj _ _) F.entry_zip_new (zRm b1 b2 l1 l2 xs ys) ⟨hl1,hl2,?_⟩
 have z1:(s.heap.push (itO b1 l1)).objs.size=s.heap.objs.size+1:=qF0 ..
 have z2:(zq2 s.heap b1 b2 l1 l2).objs.size=s.heap.objs.size+2:=by rw [qF0,z1]
 have z3:(zq3 s.heap b1 b2 l1 l2).objs.size=s.heap.objs.size+3:=by rw [qF0,z2]
 have z4:(zq4 s.heap b1 b2 l1 l2).objs.size=s.heap.objs.size+4:=by rw [qF0,z3]
 have g5:(zq5 s.heap b1 b2 l1 l2).get? (zq4 s.heap b1 b2 l1 l2).objs.size=some _:=qB4 _ rfl
 have g4:(zq5 s.heap b1 b2 l1 l2).get? (zq3 s.heap b1 b2 l1 l2).objs.size=some _:=qA4 _ (qB4 _ rfl)
 have g3:(zq5 s.heap b1 b2 l1 l2).get? (zq2 s.heap b1 b2 l1 l2).objs.size=some _:=qA4 _ (qA4 _ (qB4 _ rfl))
 have g2:(zq5 s.heap b1 b2 l1 l2).get? (s.heap.push (itO b1 l1)).objs.size=some (itO b2 l2):=qA4 _ (qA4 _ (qA4 _ (qB4 _ (zN4 _ _))))
 have g1:(zq5 s.heap b1 b2 l1 l2).get? s.heap.objs.size=some (itO b1 l1):=qA4 _ (qA4 _ (qA4 _ (qA4 _ (qB4 _ (zN4 _ _)))))
 show _∧_
 rw [z2,z3,z4] at g5
 rw [z1,z2] at g3
 rw [z3] at g4
 rw [z1] at g2
 rw [z4]
 exact ⟨⟨_,g5,rfl⟩,h _ g5 g3 g4 (zQb g1) (zQb g2) fun c o x =>
  qA4 _ (qA4 _ (qA4 _ (qA4 _ (qA4 _ x))))⟩
end
theorem zOM {n l1 l2:Addr} (h1:l1<n) (h2:l2<n):ZAp (n+4) (n+2) (n+3) n (n+1) [n,l1] [n+1,l2]:=by
 constructor <;> (try simp only [qB7,qF7,or_false,not_or]) <;> (try refine ⟨?_,?_⟩) <;> (show ¬ ((_:Nat)=_)) <;> (simp only [Addr] at *; omega)
inductive ZgoX (b1 b2:Bool) (K:W.Frag) (H:Hp) (a b:Addr) (i:Nat):Prop
 | mk (xs ys:List V) (x y:V) (q1:SqX b1 K H a xs) (q2:SqX b2 K H b ys) (ex:xs[i]?=some x) (ey:ys[i]?=some y)
inductive ZstX (b1 b2:Bool) (K:W.Frag) (H:Hp) (a b:Addr) (i:Nat):Prop
 | mk (xs ys:List V) (q1:SqX b1 K H a xs) (q2:SqX b2 K H b ys) (ei:i=min xs.length ys.length)
noncomputable def ItzX (b1 b2:Bool) (K:W.Frag) (a b:Addr):It :=
  ⟨fun i H=>ZgoX b1 b2 K H a b i,
   fun i H v H'=>∃ T,H T=none∧v=.ref T∧∀ xs ys x y,SqX b1 K H a xs→SqX b2 K H b ys→xs[i]?=some x→ys[i]?=some y→H'=upd H T (.tup [x,y]),
   fun i H=>ZstX b1 b2 K H a b i⟩
structure ZsX (b1 b2:Bool) (z TI TO i1 i2 l1 l2:Addr) (i:Nat) (h:Heap):Prop where
 a1:IsZip h z TI TO .none
 a2:IsPair h TI (.ref i1) (.ref i2)
 a3:∃ a b,IsPair h TO a b
 a4:ItX b1 h i1 l1 i
 a5:ItX b2 h i2 l2 i
section
variable {b1 b2:Bool}{z TI TO i1 i2 l1 l2:Addr}{i:Nat}{h:Heap}
theorem ZsX.obj (st:ZsX b1 b2 z TI TO i1 i2 l1 l2 i h):∀ b∈[z,TI,TO,i1,i2],∃ o,h.get? b=some o∧∀ v,o.data≠.cell v:=by
 obtain ⟨_,_,a3⟩:=st.a3
 exact allC ⟨_,st.a1,fun v q=>by cases q⟩ (allC ⟨_,st.a2,fun v q=>by cases q⟩ (allC ⟨_,a3,fun v q=>by cases q⟩ (allC st.a4.obj (allC st.a5.obj allN))))
theorem ZsX.ne (st:ZsX b1 b2 z TI TO i1 i2 l1 l2 i h) {T:Addr} (hT:h.objs.size≤T):∀ b∈[z,TI,TO,i1,i2],b≠T:=fun b hb=>by
 obtain ⟨o,e,_⟩:=st.obj b hb
 exact qC3 (qB8 (qB1 e) hT)
theorem zsub:∀ b∈[z,TO,i1,i2],b∈[z,TI,TO,i1,i2]:=allC (by simp) (allC (by simp) (allC (by simp) (allC (by simp) allN)))
inductive ZFX (b1 b2:Bool) (X:Cx) (s:Shared) (H:Hp) (l1 l2:Addr) (i:Nat):Prop
 | mk (xs ys:List V) (x y:V) (t1 t2:List Value) (u1 u2:Value) (q1:SqX b1 X.K H l1 xs) (q2:SqX b2 X.K H l2 ys) (ex:xs[i]?=some x) (ey:ys[i]?=some y) (p1:IsX b1 s.heap l1 t1.toArray) (p2:IsX b2 s.heap l2 t2.toArray)
  (e1:t1[i]?=some u1) (e2:t2[i]?=some u2) (r1:RelV x u1) (r2:RelV y u2)
variable {X:Cx}{pins:List (Addr × Obj)}{σ:St}{H:Hp}{s:Shared}
theorem zfX (I:Inv X pins σ H s) (hg:ZgoX b1 b2 X.K H l1 l2 i):ZFX b1 b2 X s H l1 l2 i:=by
 obtain ⟨xs,ys,x,y,q1,q2,ex,ey⟩:=hg
 obtain ⟨its1,r1,p1⟩:=I.sqX q1
 obtain ⟨its2,r2,p2⟩:=I.sqX q2
 obtain ⟨u1,e1,ru1⟩:=r1.get ex
 obtain ⟨u2,e2,ru2⟩:=r2.get ey
 exact ⟨xs,ys,x,y,its1,its2,u1,u2,q1,q2,ex,ey,p1,p2,e1,e2,ru1,ru2⟩
theorem zvX {t1 t2:List Value}{u1 u2:Value}{vals:Array Value} (e1:t1[i]?=some u1) (e2:t2[i]?=some u2) (hv:∃ v1 v2,t1.toArray[i]?=some v1∧t2.toArray[i]?=some v2∧vals=#[v1,v2]):vals=#[u1,u2]:=by
 obtain ⟨v1,v2,g1,g2,rfl⟩:=hv
 rw [qK9,e1] at g1
 rw [qK9,e2] at g2
 cases g1; cases g2; rfl
theorem zyX (I:Inv X pins σ H s) {xs ys:List V}{x y:V} (q1:SqX b1 X.K H l1 xs) (q2:SqX b2 X.K H l2 ys) (ex:xs[i]?=some x) (ey:ys[i]?=some y) {T:Addr} (xs' ys':List V) (x' y':V) (s1:SqX b1 X.K H l1 xs') (s2:SqX b2 X.K H l2 ys') (t1:xs'[i]?=some x') (t2:ys'[i]?=some y'):upd H T (.tup [x,y])=upd H T (.tup [x',y']):=by
 have h1:=I.sqX_inj q1 s1
 have h2:=I.sqX_inj q2 s2
 subst h1 h2
 rw [ex] at t1; rw [ey] at t2
 cases t1; cases t2; rfl
end
theorem zOO {P:Program}{w:World}{K:PySem.W.Frag}{elts:List Expr}{k:Nat}{pos:Pos} (b1 b2:Bool) (z TI TO i1 i2 l1 l2:Addr) (D:ZAp z TI TO i1 i2 [i1,l1] [i2,l2]) (d1:l1≠i1) (d2:l2≠i2) :
  Turn P w K (.Tuple elts k pos) (ItzX b1 b2 K l1 l2) [z,TI,TO,i1,i2] z (ZsX b1 b2 z TI TO i1 i2 l1 l2) where
 mem:=by simp
 obj:=fun i h st=>st.obj
 keep:=fun i h h' ⟨a1,a2,⟨x,y,a3⟩,a4,a5⟩ kk =>
  ⟨kk z (by simp) _ a1,kk TI (by simp) _ a2,⟨x,y,kk TO (by simp) _ a3⟩,a4.keep fun o e=>kk i1 (by simp) o e,a5.keep fun o e=>kk i2 (by simp) o e⟩
 item:=by
  intro X hP hw hK hc i pins s σ H E I hf st hg
  subst hP hw hK
  obtain ⟨xs,ys,x,y,its1,its2,u1,u2,q1,q2,ex,ey,p1,p2,e1,e2,ru1,ru2⟩:=zfX I hg
  have W:=WalksT.zipD (prog:=X.prog) (w:=X.w) (I.ok.hd hc) (fun A hh=>zGh b1 hh i1 l1 d1 its1.toArray) (fun A hh=>zGh b2 hh i2 l2 d2 its2.toArray) D (by simp) (by simp)
  have hl1:i<its1.length:=(qA5.mp e1).1
  have hl2:i<its2.length:=(qA5.mp e2).1
  have hwr:∀ b∈[z,TO,i1,i2],FpOk X pins H b:=fun b hb=>hf b (zsub b hb)
  refine W.item i s _ _ (by simp only [qA8]; omega) ⟨st.a1,st.a2,st.a3,⟨st.a4,p1⟩,st.a5,p2⟩ fun T vals h' tk hv hT hIs hM kk=>?_
  have hvv:=zvX e1 e2 hv
  subst hvv
  have nT:=st.ne hT
  refine ⟨_,rfl,W.go _ _ _ i T { s with heap:=h',toks:=tk } _ _ hM fun h2 st2 kk2=>?_⟩
  have I1:Inv X pins σ (upd H T (.tup [x,y])) { s with heap:=h',toks:=tk }:=I.yields (its:=[u1,u2]) hwr kk hT (.cons ru1 (.cons ru2 .nil)) (by show 2≤sizeLine; decide) hIs
  have I2:=I1.turnedL (tk:=tk) (zTd hwr fun b hb=>nT b (zsub b hb)) kk2
  exact ⟨.ref T,_,I2,rfl,⟨T,I.hok.fresh hT,rfl,zyX I q1 q2 ex ey⟩,⟨st2.1,st2.2.1,st2.2.2.1,st2.2.2.2.1.1,st2.2.2.2.2.1⟩,fun b hb=>by rw [zAi (nT b hb)]; exact (hf b hb).1⟩
 done:=by
  intro X hP hw hK hc i pins s σ H E I hf st hg
  subst hP hw hK
  obtain ⟨xs,ys,q1,q2,ei⟩:=hg
  obtain ⟨its1,r1,p1⟩:=I.sqX q1
  obtain ⟨its2,r2,p2⟩:=I.sqX q2
  have W:=WalksT.zipD (prog:=X.prog) (w:=X.w) (I.ok.hd hc) (fun A hh=>zGh b1 hh i1 l1 d1 its1.toArray) (fun A hh=>zGh b2 hh i2 l2 d2 its2.toArray) D (by simp) (by simp)
  have en:i=min its1.toArray.size its2.toArray.size:=by simp only [qA8,← r1.length,← r2.length]; exact ei
  refine W.done s _ _ (by rw [← en]; exact ⟨st.a1,st.a2,st.a3,⟨st.a4,p1⟩,st.a5,p2⟩) fun h' tk kk=>?_
  exact ⟨rfl,I.turnedL (fun b hb=>hf b (zsub b hb)) kk⟩
 self:=fun _ _ _ _ _ st h=>wpAny_pyIter_zip st.a1 h
section
variable {X:Cx}
noncomputable def zXP (K:W.Frag) (ta:TA):TI:=fun σ H R=>ta σ H fun vs H1=>∃ a b b1 b2,vs=[.ref a,.ref b]∧(∃ xs,SqX b1 K H1 a xs)∧(∃ ys,SqX b2 K H1 b ys)∧R (ItzX b1 b2 K a b) H1
theorem zUs {elts:List Expr}{k:Nat}{tpos:Pos}{a b:Expr}{ta:TA}{p pos:Pos} (hg:Gl X "zip") (hm:X.mg "zip"=none) (ha:PA X [a,b] ta) (hs:starEach [a,b] X.env=[(false,eval a X.env),(false,eval b X.env)]:=by rfl) (hs2:starEach [b] X.env=[(false,eval b X.env)]:=by rfl) :
  PI X (.Tuple elts k tpos) (.Call (.Name "zip" p) [a,b] [] pos) (zXP X.K ta):=by
 intro pins s σ H R I h
 refine Call_ (zFf I hg hm zTs (PyProof.Rows.callWith_type1 (thn (ha pos pins s σ H _ I h) fun us s1 ⟨vs,H1,I1,r1,q1⟩=>?_) (by rw [hs,hs2]) (by rw [hs2]; rfl)))
 obtain ⟨l1,l2,b1,b2,e,⟨xs,h1⟩,⟨ys,h2⟩,q⟩:=q1
 subst e
 cases r1 with
 | cons r rr =>
  cases rr with
  | cons r' rr =>
   cases rr
   cases r
   cases r'
   obtain ⟨its1,v1,p1⟩:=I1.sqX h1
   obtain ⟨its2,v2,p2⟩:=I1.sqX h2
   refine zKT p1 p2 fun h' hz hTI hTO hi1 hi2 hk=>?_
   refine wpAny_pyIter_zip hz ?_
   have I2:Inv X pins σ H1 { s1 with heap:=h' }:=I1.kept (t':=s1.toks) hk
   refine ⟨_,_,_,_,H1,rfl,I2,zOO b1 b2 _ _ _ _ _ l1 l2 (zOM p1.lt p2.lt) (qC3 p1.lt) (qC3 (qG0 p2.lt)),⟨hz,hTI,⟨_,_,hTO⟩,hi1,hi2⟩,fun b hb=>?_,q⟩
   have hle:s1.heap.objs.size≤b:=by
    simp only [qB7,qF7,or_false] at hb
    rcases hb with rfl | rfl | rfl | rfl | rfl
    ·exact qL3 _ _
    ·exact qL3 _ _
    ·exact qL3 _ _
    ·exact qB0 _
    ·exact qL3 _ _
   exact I1.fpOk hle (I1.hok.fresh hle)
end
open PySem PySem.Spec PyProof.Rows
section
variable {X:Cx}{pins:List (Addr × Obj)}{σ:St}{H:Hp}{s:Shared}{scope:Scope}{N:List Str}{C:Addr}{ex:List Addr}
theorem zNN {elt iter tg:Expr}{ifs:List Expr}{pos pos' spos:Pos}{y0:Str}{go:TG} (hgo:PG X (.Name y0 pos') go) (hsw:swapsWith (.ListComp elt [⟨tg,iter,ifs,0⟩] scope pos) (some (.Name y0 pos')) spos.line X.env=pure true) {wi:TI}{g:TG}{tc:TT}{te:TE}{k:Nat}{js:List Nat}
  (B:zOB X scope N k js) (hi:PI X tg iter wi)
  (hg:∀ cl s H C ex,PG (zCa X scope N cl s H C ex) tg g) (htc:∀ cl s H C ex,PTs (zCa X scope N cl s H C ex) ifs tc) (hte:∀ cl s H C ex,PE (zCa X scope N cl s H C ex) elt te)
  (hs:∀ x,foldedSetIterable iter X.env x=pure x:=by intro _; rfl):PS X (.Assign [.Name y0 pos'] (.ListComp elt [⟨tg,iter,ifs,0⟩] scope pos) spos) (tAsg (zTF wi k js g tc te) go):=by
 intro pins s σ H D0 I h
 rw [exec_Assign_Name_used _ _ _ _ hsw]
 refine wpAny_bind (wpAny_standAt (wpAny_bind ?_))
 show wpAny _ X.A (do let _ ← comprehension (.ListComp elt [⟨tg,iter,ifs,0⟩] scope pos) scope X.env _ (newList []) false (eval iter X.env) (some (assign (.Name y0 pos') X.env))) _ _ s
 refine wpAny_bind (wpAny_mono (wpAny_comprehension_free (use:=some (assign (.Name y0 pos') X.env)) (Q:=fun _ s'=>SP X pins D0 .next s') rfl hs (zFk fun x hx=>I.ok.has x (B.free x hx)) B.kind B.names (thn (hi pins s σ H _ I h) fun v s1 h1=>thn h1 fun itv s2 h2=>?_)) (fun _ s' hq=>wpAny_pure (wpAny_pure hq)) fun _ _ e=>e)
 obtain ⟨it,fp,tn,J,H2,e,I2,T,st2,f2,hW⟩:=h2
 subst e
 refine zNn (Q:=fun x H1=>go x σ H1 D0.nx) B I2 T st2 f2 hg htc hte hW fun cl C H4 s5 hCle hDC I5 q=>?_
 obtain ⟨m,hn,_⟩:=id I5.loc
 have hC4:H4 C=none:=I5.free
 have IA:Inv X pins σ H4 s5:=I2.call' (s':=s5) (ch:=fp) I5.os I5.base I5.hok I5.bare (fun b hb=>⟨(f2 b hb).2.2.2.1,(f2 b hb).2.1,(f2 b hb).2.2.2.2.1,(f2 b hb).2.2.2.2.2⟩)
 have fC:∀ {H':Hp},H' C=none→∀ b∈[C],FpOk X pins H' b:=fun hn b hb=>by
  have:b=C:=by simpa using hb
  subst this
  exact I2.fpOk hCle hn
 have oC:∀ b∈[C],∃ o,s5.heap.get? b=some o∧∀ v,o.data≠.cell v:=fun b hb=>by
  have:b=C:=by simpa using hb
  subst this
  obtain ⟨o,_,_,ho,hd,_⟩:=id hn
  exact ⟨o,ho,fun v z=>by rw [hd] at z; cases z⟩
 have IB:=IA.pinned (fC hC4) oC
 refine thn (hgo _ s5 σ H4 (.ref s2.heap.objs.size) (.ref s2.heap.objs.size) _ IB rfl q) fun _ s6 ⟨σ6,H6,I6,q6⟩=>?_
 obtain ⟨oc,hoc,_⟩:=oC C (by simp)
 have hp6:=I6.pin (C,oc) (qD3 _ (qD3 _ (zDe (by simp) hoc)))
 refine ⟨m,hn.at' fun o e=>?_,fun h' hs'=>⟨σ6,H6,?_,q6⟩⟩
 ·have e':s5.heap.get? C=some o:=e
  rw [hoc] at e'; cases e'; exact hp6.1
 ·exact I6.unpinned.turnedL (wr:=[C]) (tk:=s6.toks) (fC hp6.2.1) fun b o nb e=>hs'.extBut b o (by simpa using nb) e
end
open PySem PySem.Spec PyProof.Rows
section
variable {X:Cx}
open AutoSeq1 in
theorem zY2 (l:Addr) (items:Array Value) (n:Nat) (b:Addr) (items2:Array Value) (n2:Nat) (dct:Option Addr) (sl:Array (Option Value)) (h0:¬(!items.isEmpty&&Builtin.List.listTooLong (items.size+items2.size))=true) (h1:items.size≤sizeLine) (h2:items.size+items2.size≤sizeLine+1) :
  Meets (Builtin.«list.extend» ⟨[.ref l,.ref b],[]⟩) (fun _ R s=>s.heap.get? l=some { cls:=.type "list",dict:=none,data:=.seq items n,slots:=#[] }∧s.heap.get? b=some { cls:=.type "tuple",dict:=dct,data:=.seq items2 n2,slots:=sl } ∧
   R (.ok (.ret Value.none)) { s with heap:=s.heap.update l (Obj.mapSeq fun x=>x++items2),toks:=s.toks }) :=
 .of_wp fun prog w A R s h=>by
  obtain ⟨hp,g,d,tk,os⟩:=s; obtain ⟨hl,hb,h⟩:=h
  have a1:=idx_int
  have a2:=AutoSeq1.sub_tuple_tuple
  have a3:=AutoSeq1.sub_list_list
  have a4:=AutoSeq1.sub_tuple_list
  have a5:=AutoSeq1.sub_list_tuple
  have hz:(items++items2).size≤sizeLine+1:=by rw [Array.size_append]; exact h2
  wp_walk using (wpAny_updateSeq hl rfl (hz:=h1) (_hz':=hz)),wpAny_loadPart' hl,wpAny_loadPart' hb
  exact ⟨_,rfl,h⟩
noncomputable def zZK (K:W.Frag):V→List V→Hp→VK→Prop:=fun x vs H Q=>∃ l b xs zs,x=.ref l∧vs=[.ref b]∧H l=some (.lst xs)∧SqT K H b zs∧xs.length+zs.length≤sizeLine∧Q .non (upd H l (.lst (xs++zs)))
theorem zUO:MtM X "list.extend" (zZK X.K):=by
 intro pins s σ H x vs v us Q I rx rv h
 obtain ⟨l,b,xs,zs,rfl,rfl,hH,hB,hz,q⟩:=h
 cases rx
 obtain ⟨u,rfl,ru⟩:=rv.one
 cases ru
 obtain ⟨z,its,n,r,hl,e⟩:=I.lstM hH
 obtain ⟨its2,r2,⟨⟨c,dct,dt,sl⟩,e2,hc,n2,hd⟩,_⟩:=I.tuple hB
 replace hc:c=.type "tuple":=hc
 replace hd:dt=.seq its2.toArray n2:=hd
 subst hc hd
 have l2:zs.length=its2.length:=r2.length
 have hsz:its.toArray.size+its2.toArray.size≤sizeLine:=by rw [qA8,qA8]; omega
 have hlong:¬ (!its.toArray.isEmpty&&Builtin.List.listTooLong (its.toArray.size+its2.toArray.size))=true:=by
  rw [zJd hsz,qR8]
  exact qA7
 refine call_meets PySem.F.slot_list_extend ⟨_,e,rfl⟩ PySem.F.entry_list_extend (PySem.F.args_list_extend_2 _ _)
  (zY2 l its.toArray n b its2.toArray n2 dct sl hlong (by rw [qA8]; omega) (by omega)) ⟨e,e2,?_⟩
 refine ⟨.non,_,I.lset (its':=its++its2) hH e (by simp) (r.append r2) ?_,rfl,q⟩
 rw [qC4]
 omega
end
open PySem PySem.Spec PyProof.Rows
abbrev zYB (h:Heap) (T:Addr) (a b c:Value):Prop:=h.get? T=some { cls:=.type "tuple",data:=.seq #[a,b,c] }
structure ZAp3 (z TI TO i1 i2 i3:Addr) (f1 f2 f3:List Addr):Prop where
 TIz:TI≠z
 TOz:TO≠z
 i1z:i1≠z
 i2z:i2≠z
 i3z:i3≠z
 TITO:TI≠TO
 TIi1:TI≠i1
 TIi2:TI≠i2
 TIi3:TI≠i3
 TOi1:TO≠i1
 TOi2:TO≠i2
 TOi3:TO≠i3
 z1:z∉f1
 z2:z∉f2
 z3:z∉f3
 O1:TO∉f1
 O2:TO∉f2
 O3:TO∉f3
 a12:i1∉f2
 a13:i1∉f3
 a21:i2∉f1
 a23:i2∉f3
 a31:i3∉f1
 a32:i3∉f2
inductive Zgo3 (K:W.Frag) (H:Hp) (a b c:Addr) (i:Nat):Prop
 | mk (xs ys us:List V) (x y u:V) (q1:SqL K H a xs) (q2:SqT K H b ys) (q3:SqT K H c us) (ex:xs[i]?=some x) (ey:ys[i]?=some y) (eu:us[i]?=some u)
inductive Zst3 (K:W.Frag) (H:Hp) (a b c:Addr) (i:Nat):Prop
 | mk (xs ys us:List V) (q1:SqL K H a xs) (q2:SqT K H b ys) (q3:SqT K H c us) (ei:i=min xs.length (min ys.length us.length))
structure Zs3 (z TI TO i1 i2 i3 l1 l2 l3:Addr) (i:Nat) (h:Heap):Prop where
 a1:IsZip h z TI TO .none
 a2:zYB h TI (.ref i1) (.ref i2) (.ref i3)
 a3:∃ a b c,zYB h TO a b c
 a4:ItX false h i1 l1 i
 a5:ItX true h i2 l2 i
 a6:ItX true h i3 l3 i
section
variable {z TI TO i1 i2 i3 l1 l2 l3:Addr}{i:Nat}{h:Heap}
theorem Zs3.obj (st:Zs3 z TI TO i1 i2 i3 l1 l2 l3 i h):∀ b∈[z,TI,TO,i1,i2,i3],∃ o,h.get? b=some o∧∀ v,o.data≠.cell v:=by
 obtain ⟨_,_,_,a3⟩:=st.a3
 exact allC ⟨_,st.a1,fun v q=>by cases q⟩ (allC ⟨_,st.a2,fun v q=>by cases q⟩ (allC ⟨_,a3,fun v q=>by cases q⟩ (allC st.a4.obj (allC st.a5.obj (allC st.a6.obj allN)))))
theorem Zs3.ne (st:Zs3 z TI TO i1 i2 i3 l1 l2 l3 i h) {T:Addr} (hT:h.objs.size≤T):∀ b∈[z,TI,TO,i1,i2,i3],b≠T:=fun b hb=>by
 obtain ⟨o,e,_⟩:=st.obj b hb
 exact qC3 (qB8 (qB1 e) hT)
inductive ZF3 (X:Cx) (s:Shared) (H:Hp) (l1 l2 l3:Addr) (i:Nat):Prop
 | mk (xs ys us:List V) (x y u:V) (t1 t2 t3:List Value) (u1 u2 u3:Value) (q1:SqL X.K H l1 xs) (q2:SqT X.K H l2 ys) (q3:SqT X.K H l3 us) (ex:xs[i]?=some x) (ey:ys[i]?=some y) (eu:us[i]?=some u)
  (p1:IsX false s.heap l1 t1.toArray) (p2:IsX true s.heap l2 t2.toArray) (p3:IsX true s.heap l3 t3.toArray) (e1:t1[i]?=some u1) (e2:t2[i]?=some u2) (e3:t3[i]?=some u3) (r1:RelV x u1) (r2:RelV y u2) (r3:RelV u u3)
variable {X:Cx}{pins:List (Addr × Obj)}{σ:St}{H:Hp}{s:Shared}
end
open PySem PySem.Spec PyProof.Rows
section
variable {X:Cx}
theorem zKu:∀ {us:List Value}{ns:List Int},IntsAre us ns→Vals (ns.map V.int) us
 | _,_,h=>by
  induction h with
  | nil=>exact .nil
  | cons _ _ _ ih=>exact .cons ⟨_,rfl⟩ ih
theorem zKU:zCw X (.builtin "sorted") (fun vs H Q=>∃ (p:Addr) (ns:List Int),vs=[.ref p]∧SqL X.K H p (ns.map V.int)∧ns.length<64∧∀ (l:Addr) (ms:List Int),H l=none→ms.Perm ns→ms.Pairwise (·≤·)→Q (.ref l) (upd H l (.lst (ms.map V.int)))):=by
 intro pins s σ H xs us Q I r h
 obtain ⟨p,ns,rfl,hq,hn,q⟩:=h
 obtain ⟨u,rfl,ru⟩:=zF2 r
 cases ru
 obtain ⟨its,rv,pl,hz⟩:=I.list hq
 have hlen:=rv.length
 rw [qA2] at hlen
 refine sorted_ints pl.isList (zO2 rv) (by omega) fun out ns' h1 h2 h3=>?_
 obtain ⟨e,he⟩:=sortedAll_at s.heap its out
 have hl:ns'.length=ns.length:=h2.length_eq
 refine ⟨.ref (s.heap.objs.size+1),_,I.laid (t':=s.toks) (o:=.lst (ns'.map V.int)) (fun b o e=>sortedAll_old e) (qN3 _) ?_,rfl,q _ _ (I.hok.fresh (qN3 _)) h2 h3⟩
 exact ⟨by rw [qA2,hl]; exact qC6 (qH0 hn) (by decide),out.toList,e,zKu h1,by simpa [seqObj] using he⟩
theorem zIo {A:Around}{prog:Program}{w:World}{ns:List Int}{its:List Value} (r:Vals (ns.map V.int) its):TruthOf prog w A (fun i v=>its.toArray[i]?=some v) (fun i=>(ns.map (· != 0)).getD i false):=by
 intro i v s Q E hv hq
 have hv':its[i]?=some v:=by simpa using hv
 have hl:i<ns.length:=by
  have h1:=(qA5.mp hv').1
  have h2:=r.length
  rw [qA2] at h2
  omega
 obtain ⟨u,e,ru⟩:=Vals.get r (i:=i) (x:=.int ns[i]) (by rw [qA6,qA0 hl]; rfl)
 rw [e] at hv'
 cases hv'
 obtain ⟨t,rfl⟩:=ru
 have eq:(ns.map (· != 0)).getD i false=(ns[i] != 0):=by simp [qF5,hl]
 have hq':Q ((ns.map (· != 0)).getD i false) s:=hq
 rw [eq] at hq'
 exact PyProof.Rows.truthy_int hq'
theorem zR2 (hc:X.calm=true):zCw X (.builtin "all") (fun vs H Q=>∃ (p:Addr) (ns:List Int),vs=[.ref p]∧SqT X.K H p (ns.map V.int)∧Q (.bl (ns.all (· != 0))) H):=by
 intro pins s σ H xs us Q I r h
 obtain ⟨p,ns,rfl,hq,q⟩:=h
 obtain ⟨u,rfl,ru⟩:=zF2 r
 cases ru
 obtain ⟨its,rv,pl,hz⟩:=I.tuple hq
 have pl':s.heap.IsTuple p its.toArray:=pl
 have hlt:p<s.heap.objs.size:=by obtain ⟨_,e,_⟩:=pl'; exact qB1 e
 have hlen:=rv.length
 rw [qA2] at hlen
 refine call_all_walk (wpAny_pyIter_tuple pl' ?_)
 refine ⟨s.heap.objs.size,_,[s.heap.objs.size],_,_,_,_,rfl,Walks.tuple (A:=X.A.in1) (show X.A.in1.handled=none from I.ok.hd hc) s.heap.objs.size p (qC3 hlt) its.toArray,⟨⟨_,qB4 _ rfl,rfl,rfl⟩,pl'.push _⟩,zIo rv,fun h' tk kk=>?_⟩
 have e:(List.range its.toArray.size).all (fun i=>(ns.map (· != 0)).getD i false)=ns.all (· != 0):=by rw [qA8,← hlen,show ns.length=(ns.map (· != 0)).length by simp,zKe,qN9]; rfl
 rw [e]
 refine ⟨.bl (ns.all (· != 0)),H,?_,rfl,q⟩
 exact I.kept (t':=tk) fun b o eb=>kk b o (by simp only [qE6]; exact qC3 (qB1 eb)) (qA4 _ eb)
theorem zR0 (hc:X.calm=true):zCw X (.builtin "any") (fun vs H Q=>∃ (p:Addr) (ns:List Int),vs=[.ref p]∧SqT X.K H p (ns.map V.int)∧Q (.bl (ns.any (· != 0))) H):=by
 intro pins s σ H xs us Q I r h
 obtain ⟨p,ns,rfl,hq,q⟩:=h
 obtain ⟨u,rfl,ru⟩:=zF2 r
 cases ru
 obtain ⟨its,rv,pl,hz⟩:=I.tuple hq
 have pl':s.heap.IsTuple p its.toArray:=pl
 have hlt:p<s.heap.objs.size:=by obtain ⟨_,e,_⟩:=pl'; exact qB1 e
 have hlen:=rv.length
 rw [qA2] at hlen
 refine call_any_walk (wpAny_pyIter_tuple pl' ?_)
 refine ⟨s.heap.objs.size,_,[s.heap.objs.size],_,_,_,_,rfl,Walks.tuple (A:=X.A.in1) (show X.A.in1.handled=none from I.ok.hd hc) s.heap.objs.size p (qC3 hlt) its.toArray,⟨⟨_,qB4 _ rfl,rfl,rfl⟩,pl'.push _⟩,zIo rv,fun h' tk kk=>?_⟩
 have e:(List.range its.toArray.size).any (fun i=>(ns.map (· != 0)).getD i false)=ns.any (· != 0):=by rw [qA8,← hlen,show ns.length=(ns.map (· != 0)).length by simp,zKd,qO0]; rfl
 rw [e]
 refine ⟨.bl (ns.any (· != 0)),H,?_,rfl,q⟩
 exact I.kept (t':=tk) fun b o eb=>kk b o (by simp only [qE6]; exact qC3 (qB1 eb)) (qA4 _ eb)
end
open PySem PySem.Spec PyProof.Rows
section
variable {X:Cx}
noncomputable def rInG (K:W.Frag) (neg:Bool):R2:=fun x y H Q=>∃ (p:Addr) (xs:List V) (N N':Addr→Prop) (dx:PyData) (ds:List PyData),
 y=.ref p∧(SqL K H p xs∨SqT K H p xs)∧Rp K H N x dx∧okD dx∧RpL K H N' xs ds∧(∀ d∈ds,okD d)∧Q (.bl (if neg then !(ds.any fun d=>PyData.eqv d dx) else ds.any fun d=>PyData.eqv d dx)) H
theorem zHQ {h:Heap}{dx:PyData}:∀ {ds:List PyData}{us:List Value}{as:List Addr},ReadsAll h us ds as→(∀ d∈ds,okD d)→us.any (eqW h dx)=ds.any fun d=>PyData.eqv d dx
 | _,_,_,.nil,_=>rfl
 | _,_,_,.cons r rr,o=>by
  rw [qE9,qE9,zTg r (o _ (qF1 ..)).1,zHQ rr fun d hd=>o d (qD6 _ hd)]
theorem zJh {A:Around}{s:Shared}{dx:PyData}{u:Value}{bs:List Addr} (hu:A.units+64<cLine) (rb:Reads s.heap u dx bs) (oy:okD dx):∀ {ds:List PyData}{us:List Value}{as:List Addr},ReadsAll s.heap us ds as→(∀ d∈ds,okD d)→∀ w∈us,SeqAt.EqAt A.in1 s w u (eqW s.heap dx w):=fun {ds us as} ra ods w hw=>by
 obtain ⟨m,hm,rfl⟩:=qM2 hw
 obtain ⟨d,cs,h1,h2⟩:=zGa ra (qA0 hm)
 have od:=ods d (qB9 h1)
 rw [zTg h2 od.1]
 refine SeqAt.eqAt_reads d dx _ s _ _ _ _ h2 rb od.1 oy.1 ?_
 have:=od.2
 show A.units+1+min d.depth dx.depth<cLine
 omega
theorem zXo (hu:X.A.units+64<cLine):OpR X (compareOp .In) (rInG X.K false):=by
 intro pins s σ H x y v u Q I rx ry h
 obtain ⟨p,xs,N,N',dx,ds,rfl,hq,hx,ox,hxs,ods,q⟩:=h
 cases ry
 obtain ⟨bs,rb⟩:=I.reads hx rx
 rcases hq with hq | hq
 ·obtain ⟨its,r,pl,hz⟩:=I.list hq
  obtain ⟨as,ra⟩:=I.readsL hxs r
  refine SeqAt.in_listAt (eqW s.heap dx) pl.isList (fun w hw=>zJh hu rb ox ra ods w (by simpa using hw)) ⟨.bl _,H,I,rfl,?_⟩
  rw [show its.toArray.any (eqW s.heap dx)=its.any (eqW s.heap dx) by simp,zHQ ra ods]
  exact q
 ·obtain ⟨its,r,pl,hz⟩:=I.tuple hq
  obtain ⟨as,ra⟩:=I.readsL hxs r
  refine SeqAt.in_tupleAt (eqW s.heap dx) pl (fun w hw=>zJh hu rb ox ra ods w (by simpa using hw)) ⟨.bl _,H,I,rfl,?_⟩
  rw [show its.toArray.any (eqW s.heap dx)=its.any (eqW s.heap dx) by simp,zHQ ra ods]
  exact q
theorem zPC (hu:X.A.units+64<cLine):OpR X (compareOp .NotIn) (rInG X.K true):=by
 intro pins s σ H x y v u Q I rx ry h
 obtain ⟨p,xs,N,N',dx,ds,rfl,hq,hx,ox,hxs,ods,q⟩:=h
 cases ry
 obtain ⟨bs,rb⟩:=I.reads hx rx
 rcases hq with hq | hq
 ·obtain ⟨its,r,pl,hz⟩:=I.list hq
  obtain ⟨as,ra⟩:=I.readsL hxs r
  refine SeqAt.notIn_listAt (eqW s.heap dx) pl.isList (fun w hw=>zJh hu rb ox ra ods w (by simpa using hw)) ⟨.bl _,H,I,rfl,?_⟩
  rw [show its.toArray.any (eqW s.heap dx)=its.any (eqW s.heap dx) by simp,zHQ ra ods]
  exact q
 ·obtain ⟨its,r,pl,hz⟩:=I.tuple hq
  obtain ⟨as,ra⟩:=I.readsL hxs r
  refine SeqAt.notIn_tupleAt (eqW s.heap dx) pl (fun w hw=>zJh hu rb ox ra ods w (by simpa using hw)) ⟨.bl _,H,I,rfl,?_⟩
  rw [show its.toArray.any (eqW s.heap dx)=its.any (eqW s.heap dx) by simp,zHQ ra ods]
  exact q
end
open PySem PySem.Spec PyProof.Rows
section
variable {prog:Program}{w:World}{A:Around}{E:Value→Shared→Prop}{s:Shared}
theorem zIL {it t:Addr}{items:Array Value} (hne:t≠it):∀ (n i:Nat) (s:Shared) (Q:List Value→Shared→Prop),s.heap.IsListIter it t i→s.heap.IsList t items→i+n≤items.size →
  (∀ h',h'.IsListIter it t (i+n)→qE2 it s.heap h'→Q ((items.toList.drop i).take n) { s with heap:=h' })→wpAny (model prog w) A (draw (.ref it) n) Q E s
 | 0,i,s,Q,hit,_,_,hQ=>by
  show wpAny _ _ (pure []) Q E s
  exact wpAny_pure (by simpa using hQ s.heap hit (qE2.refl ..))
 | n+1,i,s,Q,hit,ht,hle,hQ=>by
  have hlt:i<items.size:=by omega
  show wpAny _ _ (pyNext (.ref it) >>= _) Q E s
  refine wpAny_bind (wpAny_pyNext_list_item hit ht (x:=items[i]) (by simp [hlt]) fun h₁ hit₁ hs₁=>?_)
  refine wpAny_bind (wpAny_holding (zIL hne n (i+1) _ _ hit₁ (ht.extBut hs₁.extBut hne) (by omega) fun h₂ hit₂ hs₂=>wpAny_pure ?_))
  have hd:items.toList.drop i=items[i]::items.toList.drop (i+1):=by simp [qG7,hlt]
  have:=hQ h₂ (by rw [show i+(n+1)=i+1+n by omega]; exact hit₂) (hs₁.trans hs₂)
  rw [hd,List.take_succ_cons] at this
  exact this
theorem zGk {t:Addr}{items:Array Value}{Q:List Value→Shared→Prop} (hh:A.handled=none) (ht:s.heap.IsList t items)
  (hQ:∀ h',qO8 s.heap.objs.size s.heap h'→Q items.toList { s with heap:=h' }):wpAny (model prog w) A (unpackItems (.ref t) items.size none) Q E s:=by
 have hlt:t≠s.heap.objs.size:=by obtain ⟨o,ho,_⟩:=ht; exact qC3 (qB1 ho)
 unfold unpackItems
 refine wpAny_bind ?_
 ·unfold notIterableAtAll
  refine wpAny_bind (wpAny_specialOf ht.typeIs slot_list_iter.lookup ?_)
  refine wpAny_pure ?_
  simp only [qF2,if_false]
  refine wpAny_bind (wpAny_holding (wpAny_pyIter_list ht ?_))
  refine wpAny_bind (wpAny_holding (zIL hlt items.size 0 _ _ ⟨_,qB4 _ rfl,rfl,rfl⟩ (ht.push _) (by omega) fun h₁ hit₁ hs₁=>?_))
  have hall:List.take items.size (List.drop 0 items.toList)=items.toList:=by
   rw [qK6]; exact qG1 (by simp)
  rw [hall]
  rw [if_neg (by simp)]
  have ht₁:h₁.IsList t items:=(ht.push _).extBut hs₁.extBut hlt
  refine wpAny_bind (wpAny_holding (wpAny_pyNext_list_end hh hit₁ ht₁ (by simp) fun h₂ he₂=>?_))
  simp only [Option.isSome_none,qF2,if_false]
  refine wpAny_pure (hQ h₂ fun b o hb e=>he₂ b o hb (hs₁.extBut b o hb (qA4 _ e)))
theorem zG4 {env:Env}{elts:List Expr}{x1}{pos:Pos}{t:Addr}{items:Array Value}{Q:Unit→Shared→Prop} (hh:A.handled=none) (ht:s.heap.IsList t items)
  (hn:(assignEach elts env).length=items.size) (hstar:(assignEach elts env).findIdx? (·.1)=none)
  (h:∀ h',qO8 s.heap.objs.size s.heap h'→wpAny (model prog w) A (assignInOrder ((assignEach elts env).map (·.2)) items.toList) Q E { s with heap:=h' }) :
  wpAny (model prog w) A (assign (.Tuple elts x1 pos) env (.ref t)) Q E s:=by
 rw [assign_Tuple]
 refine wpAny_bind (wpAny_standAt ?_)
 unfold unpack
 rw [hn,hstar]
 exact wpAny_bind (wpAny_holding (zGk hh ht h))
end
section
variable {X:Cx}{pos:Pos}
noncomputable def zaD (K:W.Frag) (n:Nat) (t:TGs):TG:=fun v σ H Q=>∃ a xs,v=.ref a∧(SqT K H a xs∨SqL K H a xs)∧xs.length=n∧t xs σ H Q
theorem zUt {es:List Expr}{k:Nat}{t:TGs}{n:Nat} (hc:X.calm=true) (h:PGs X es t)
  (hn:(assignEach es X.env).length=n) (hst:(assignEach es X.env).findIdx? (·.1)=none):PG X (.Tuple es k pos) (zaD X.K n t):=by
 intro pins s σ H v u Q I r hw
 obtain ⟨a,xs,e1,hq,hl,hw⟩:=hw
 subst e1
 rcases hq with hq | hq
 ·exact zT4 hc h hn hst pins s σ H (.ref a) u Q I r ⟨a,xs,rfl,hq,hl,hw⟩
 ·cases r
  obtain ⟨its,rv,ht,hz⟩:=I.list hq
  refine zG4 (I.ok.hd hc) ht.isList (by simp [hn,← hl,rv.length]) hst fun h' hx=>?_
  have I1:Inv X pins σ H { s with heap:=h' }:=I.kept (t':=s.toks) fun b o e=>hx b o (qC3 (qB1 e)) e
  exact h pins _ σ H xs _ Q I1 (by simpa using rv) hw
end
open PySem PySem.Spec PyProof.Rows
def Raw (h:Heap) (d:Addr) (es:Array DictEntry) (ep:Nat):Prop:=∃ o,h.get? d=some o∧o.cls=.type "dict"∧o.data=.dict es ep
theorem Raw.at {h h':Heap}{d:Addr}{es:Array DictEntry}{ep:Nat} (x:Raw h d es ep) (e:∀ o,h.get? d=some o→h'.get? d=some o):Raw h' d es ep:=let ⟨o,ho,r⟩:=x; ⟨o,e o ho,r⟩
theorem Raw.lt {h:Heap}{d:Addr}{es:Array DictEntry}{ep:Nat} (x:Raw h d es ep):d<h.objs.size:=let ⟨_,ho,_⟩:=x; qB1 ho
open PySem PySem.Spec PyProof.Rows
section
variable {prog:Program}{w:World}{A:Around}{E:Value→Shared→Prop}{s:Shared}{z TI TO:Addr}{f0:Value}
theorem zRn:typeLookup (.type "zip") (Str.ofString "keys")=pure none:=am_miss_of_fast (by kernel_rfl)
theorem zVP:typeLookup (.type "zip") (Str.ofString "__getattr__")=pure none:=am_miss_of_fast (by kernel_rfl)
theorem zFy:entryFor table "zip.__getattribute__"=some Builtin.«object.__getattribute__»:=by kernel_rfl
theorem zIB:isSubtype (.type "AttributeError") (.type "AttributeError")=pure true:=by kernel_rfl
theorem zNT {Q:Option Value→Shared→Prop} (hz:IsZip s.heap z TI TO f0) (hh:A.handled=none) (hQ:∀ h' tk,(∀ b o,s.heap.get? b=some o→h'.get? b=some o)→Q none { s with heap:=h',toks:=tk }) :
  wpAny (model prog w) A (getAttr? (.ref z) (Str.ofString "keys")) Q E s:=by
 unfold getAttr? getAttrBy? getAttrBy
 refine wpAny_bind (wpAny_mkText ?_)
 refine wpAny_bind (wpAny_attempt (wpAny_holding (wpAny_bind (wpAny_typeOf (T := "zip") ⟨_,hz,rfl⟩ ?_))))
 rw [F.slot_zip_getattribute.lookup]
 refine wpAny_bind (wpAny_pure ?_)
 show wpAny _ _ (getAttrByItsOwn _ _ _ _ _ _) _ _ _
 unfold getAttrByItsOwn hookBefore
 refine wpAny_bind (wpAny_pure ?_)
 refine wpAny_bind (wpAny_attempt (wpAny_holding ?_))
 show wpAny _ _ (boundAndCalled _ _ _) _ _ _
 unfold boundAndCalled
 rw [F.slot_zip_getattribute.bind]
 refine wpAny_bind (wpAny_pure ?_)
 refine wpAny_call_entry F.slot_zip_getattribute ⟨_,hz,rfl⟩ zFy ?_ (F.args_zip_getattribute_2 _ _)
 unfold Builtin.«object.__getattribute__»
 refine wpAny_bind (wpAny_pure ?_)
 refine wpAny_bind (wpAny_pure ?_)
 refine wpAny_bind (wpAny_typeOf (T := "zip") ⟨_,hz,rfl⟩ ?_)
 unfold Builtin.ObjectAttr.find
 rw [zRn]
 refine wpAny_bind (wpAny_bind (wpAny_pure (wpAny_bind (wpAny_pure (wpAny_bind (wpAny_pure ?_))))))
 show wpAny _ _ (Builtin.ObjectAttr.ownThenClass _ _ _ _) _ _ _
 unfold Builtin.ObjectAttr.ownThenClass Builtin.ObjectAttr.inOwnDict Builtin.ObjectAttr.ownDict
 refine wpAny_bind (wpAny_bind (wpAny_bind (wpAny_load hz ?_)))
 show wpAny _ _ (instanceDict z false) _ _ _
 unfold instanceDict
 refine wpAny_bind (wpAny_loadPart hz ?_)
 show wpAny _ _ (pure none) _ _ _
 refine wpAny_pure ?_
 show wpAny _ _ (pure none) _ _ _
 refine wpAny_pure ?_
 show wpAny _ _ (Builtin.ObjectAttr.copiedAttributeGuard _ _ >>= _) _ _ _
 have g:Builtin.ObjectAttr.copiedAttributeGuard (Str.ofString "keys") (.ref z)=pure ():=by
  unfold Builtin.ObjectAttr.copiedAttributeGuard
  dsimp only
  rw [if_neg (by decide +kernel)]
 rw [g]
 refine wpAny_bind (wpAny_pure ?_)
 unfold Builtin.ObjectAttr.byTheClass
 refine wpAny_bind (wpAny_rule (wpAny_pure ?_))
 show wpAny _ _ (Builtin.ObjectAttr.noSuchAttribute _ _) _ _ _
 unfold Builtin.ObjectAttr.noSuchAttribute typeNameOfCut shownTypeOf
 refine wpAny_bind (wpAny_bind (wpAny_bind (wpAny_typeOf (T := "zip") ⟨_,hz,rfl⟩ (wpAny_pure ?_))))
 show wpAny _ _ (typeName (.type "zip")) _ _ _
 have tn:typeName (.type "zip")=pure "zip":=by
  show pure ((Manifest.find? "zip").elim "zip" fun x=>x.tpName)=_
  have:((Manifest.find? "zip").elim "zip" fun x=>x.tpName) = "zip":=by kernel_rfl
  rw [this]
 rw [tn]
 refine wpAny_pure ?_
 refine wpAny_raiseAttrError hh (fun h' tk e ne=>?_) (by size_fits)
 have ty:∀ g d os,Shared.TypeIs { heap:=h',gens:=g,drawn:=d,toks:=tk,os:=os } (.ref e) "AttributeError":=fun g d os=>let ⟨_,_,q⟩:=ne.there; ⟨_,q,rfl⟩
 show wpAny _ _ (getattributeRaised _ _ _ _ _ _ _) _ _ _
 unfold getattributeRaised hookBehind
 refine wpAny_bind (wpAny_isInstance (T := "AttributeError") (b:=true) (ty _ _ _) zIB ?_)
 show wpAny _ _ (typeLookup (.type "zip") (Str.ofString "__getattr__") >>= _) _ _ _
 rw [zVP]
 refine wpAny_bind (wpAny_pure ?_)
 show wpAny _ _ (throw (Value.ref e) >>= _) _ _ _
 refine wpAny_bind (wpAny_throw ?_)
 refine wpAny_bind (wpAny_isInstance (T := "AttributeError") (b:=true) (ty _ _ _) zIB ?_)
 exact wpAny_pure (hQ h' tk ne.keeps)
end
open PySem PySem.Spec PyProof.Rows
section
variable {prog:Program}{w:World}{A:Around}{E:Value→Shared→Prop}{s:Shared}{z TI TO i1 i2:Addr}{f1 f2:List Addr}{n1 n2 k:Nat}{P1 P2:Nat→Value→Prop}{S1 S2:Nat→Heap→Prop}
theorem zLj {M:Model}{a:Addr}{o:Obj}{Q:Option Obj→Shared→Prop} (e:s.heap.get? a=some o) (h:Q (some o) s):wpAny M A (loadIfAlive a) Q E s:=fun Γ p hΓ=>by
 unfold loadIfAlive
 rw [Sem.wp_loadIfAlive,e]
 exact wpAny_pure (M:=M) (A:=A) (E:=E) h Γ p hΓ
abbrev zHT (h:Heap) (z TI TO T:Addr) (b:Bool):Prop:=h.get? z=some { cls:=.type "zip",data:=.fields #[rawInt T,.bool b,.bool false,.ref TI,.ref TO] }
theorem zQr {Q:Bool→Shared→Prop}{T:Addr}{oT:Obj}{b:Bool} (hz:zHT s.heap z TI TO T b) (hT:s.heap.get? T=some oT)
  (hQ:∀ ha,zHT ha z TI TO T true→(∀ c o,c≠z→s.heap.get? c=some o→ha.get? c=some o)→ha.objs.size=s.heap.objs.size→Q false { s with heap:=ha }):wpAny (model prog w) A (Builtin.SmallTypes.ownedTupleIsFree (.ref z)) Q E s:=by
 unfold Builtin.SmallTypes.ownedTupleIsFree
 refine wpAny_bind (wpAny_field hz rfl (x:=rawInt T) rfl ?_)
 show wpAny _ _ (loadIfAlive (T:Int).toNat >>= _) _ _ _
 rw [qE8]
 refine wpAny_bind (zLj hT ?_)
 show wpAny _ _ (field (.ref z) 1 >>= _) _ _ _
 refine wpAny_bind (wpAny_field hz rfl (x:=.bool b) rfl ?_)
 cases b with
 | true=>exact wpAny_pure (hQ s.heap hz (fun _ _ _ e=>e) rfl)
 | false =>
  show wpAny _ _ (setField (.ref z) 1 (.bool true) >>= _) _ _ _
  exact wpAny_bind (wpAny_setField_rec hz (by simp) fun ha za sa=>wpAny_pure (hQ ha za (fun c o n e=>sa.extBut _ _ n e) sa.1))
theorem zRo {Q:Fin→Shared→Prop}{T:Addr}{oT:Obj}{b:Bool} (hz:zHT s.heap z TI TO T b) (hT:s.heap.get? T=some oT) (hTI:IsPair s.heap TI (.ref i1) (.ref i2)) (hh:A.handled=none)
  (D1:∀ A:Around,A.handled=none→Draws prog w A i1 f1 n1 P1 S1) (D2:∀ A:Around,A.handled=none→Draws prog w A i2 f2 n2 P2 S2) (ap:ZAp z TI TO i1 i2 f1 f2) (h1:S1 k s.heap) (h2:S2 k s.heap)
  (hQ:k<n1→k<n2→∀ x y h' tk,P1 k x→P2 k y→zHT h' z TI TO T true→S1 (k+1) h'→S2 (k+1) h'→IsPair h' s.heap.objs.size x y→h'.objs.size=s.heap.objs.size+1 →
   (∀ c o,c≠z→c≠i1→c≠i2→s.heap.get? c=some o→h'.get? c=some o)→Q (.done (.ret (.ref s.heap.objs.size))) { s with heap:=h',toks:=tk })
  (hE:(k=n1∨k=n2)→∀ h' e tk,(∀ c o,c≠z→c≠i1→c≠i2→s.heap.get? c=some o→h'.get? c=some o)→(∃ o,h'.get? e=some o∧o.cls=.type "StopIteration")→E (.ref e) { s with heap:=h',toks:=tk })
  (hk1:k≤n1) (hk2:k≤n2):wpAny (model prog w) A (Builtin.«zip.__next__» ⟨[.ref z],[]⟩) Q E s:=by
 show wpAny _ _ (field (.ref z) 2 >>= _) _ _ _
 refine wpAny_bind (wpAny_field hz rfl (x:=.bool false) rfl ?_)
 show wpAny _ _ (field (.ref z) 3 >>= _) _ _ _
 refine wpAny_bind (wpAny_field hz rfl (x:=.ref TI) rfl ?_)
 refine wpAny_bind (wpAny_seqItems hTI rfl ?_)
 show wpAny _ _ (Builtin.SmallTypes.ownedTupleIsFree (.ref z) >>= _) _ _ _
 refine wpAny_bind (zQr hz hT fun ha za ka na=>?_)
 have s1a:S1 k ha:=(D1 A hh).frame _ _ _ h1 fun c hc o e=>ka c o (fun q=>ap.z1 (q▸hc)) e
 have s2a:S2 k ha:=(D2 A hh).frame _ _ _ h2 fun c hc o e=>ka c o (fun q=>ap.z2 (q▸hc)) e
 simp only [qF2,if_false]
 refine wpAny_bind ?_
 simp only [List.forIn_toArray,qO2,qO7]
 refine wpAny_bind (wpAny_bind (wpAny_holding ?_))
 show wpAny _ _ (Builtin.SmallTypes.nextOf (.ref i1) >>= _) _ _ _
 by_cases l1:k<n1
 ·refine wpAny_bind ((D1 _ hh).item k _ _ _ l1 s1a fun x hb tb px s1b sb=>wpAny_pure ?_)
  have s2b:S2 k hb:=Draws.sb (D2 A hh) s2a sb ap.j2
  have zb:zHT hb z TI TO T true:=sb.extBut _ _ ap.i1z.symm za
  refine wpAny_pure ?_
  refine wpAny_bind (wpAny_bind (wpAny_holding ?_))
  show wpAny _ _ (Builtin.SmallTypes.nextOf (.ref i2) >>= _) _ _ _
  by_cases l2:k<n2
  ·refine wpAny_bind ((D2 _ hh).item k _ _ _ l2 s2b fun y hd td py s2d sd=>wpAny_pure ?_)
   have s1d:S1 (k+1) hd:=Draws.sb (D1 A hh) s1b sd ap.j1
   have zd:zHT hd z TI TO T true:=sd.extBut _ _ ap.i2z.symm zb
   refine wpAny_pure (wpAny_pure ?_)
   refine wpAny_bind (wpAny_newTuple ?_ (by show 2≤sizeLine; decide))
   have hsz:hd.objs.size=s.heap.objs.size:=by rw [sd.1,sb.1,na]
   refine wpAny_pure ?_
   show Q (.done (.ret (.ref hd.objs.size))) _
   rw [hsz]
   refine hQ l1 l2 x y _ td px py (qA4 _ zd) ((D1 A hh).frame _ _ _ s1d fun c hc o e=>qA4 _ e) ((D2 A hh).frame _ _ _ s2d fun c hc o e=>qA4 _ e) ?_ ?_ fun c o c1 c2 c3 e=>qA4 _ (sd.extBut _ _ c3 (sb.extBut _ _ c2 (ka c o c1 e)))
   ·rw [← hsz]; exact qB4 _ rfl
   ·rw [qF0,hsz]
  ·have e2:k=n2:=qI8 hk2 (qJ5 l2)
   refine wpAny_bind ((D2 _ hh).done _ _ _ (e2▸s2b) fun hd e sd he=>?_)
   exact hE (.inr e2) hd e tb (fun c o c1 c2 c3 q=>sd _ _ c3 (sb.extBut _ _ c2 (ka c o c1 q))) he
 ·have e1:k=n1:=qI8 hk1 (qJ5 l1)
  refine wpAny_bind ((D1 _ hh).done _ _ _ (e1▸s1a) fun hd e sd he=>?_)
  exact hE (.inl e1) hd e s.toks (fun c o c1 c2 c3 q=>sd _ _ c2 (ka c o c1 q)) he
inductive ZWay (z TI TO:Addr) (h:Heap):Prop
 | fresh (e:IsZip h z TI TO .none)
 | busy (T:Addr) (oT:Obj) (b:Bool) (e:zHT h z TI TO T b) (a:h.get? T=some oT) (nz:T≠z) (n1:T≠TO)
structure ZRun (z TI TO i1 i2:Addr) (S1 S2:Nat→Heap→Prop) (k:Nat) (h:Heap):Prop where
 way:ZWay z TI TO h
 ti:IsPair h TI (.ref i1) (.ref i2)
 to:∃ a b,IsPair h TO a b
 s1:S1 k h
 s2:S2 k h
theorem zMx {Q:Option Value→Shared→Prop} (hr:ZRun z TI TO i1 i2 S1 S2 k s.heap) (hh:A.handled=none)
  (D1:∀ A:Around,A.handled=none→Draws prog w A i1 f1 n1 P1 S1) (D2:∀ A:Around,A.handled=none→Draws prog w A i2 f2 n2 P2 S2) (ap:ZAp z TI TO i1 i2 f1 f2) (m1:i1∈f1) (m2:i2∈f2)
  (hQ:k<n1→k<n2→∀ x y h' tk,P1 k x→P2 k y→ZRun z TI TO i1 i2 S1 S2 (k+1) h'→IsPair h' s.heap.objs.size x y→(∀ c o,c≠z→c≠TO→c≠i1→c≠i2→s.heap.get? c=some o→h'.get? c=some o)→Q (some (.ref s.heap.objs.size)) { s with heap:=h',toks:=tk })
  (hE:(k=n1∨k=n2)→∀ h' tk,(∀ c o,c≠z→c≠TO→c≠i1→c≠i2→s.heap.get? c=some o→h'.get? c=some o)→Q none { s with heap:=h',toks:=tk })
  (hk1:k≤n1) (hk2:k≤n2):wpAny (model prog w) A (pyNext (.ref z)) Q E s:=by
 have lt:∀ {c o},s.heap.get? c=some o→s.heap.objs.size≠c:=fun e=>qH2 (qB1 e)
 have stop:∀ h' e tk,(∃ o,h'.get? e=some o∧o.cls=.type "StopIteration")→Q none { s with heap:=h',toks:=tk }→wpAny (model prog w) A (isInstance (.ref e) (.type "StopIteration") >>= fun b=>if b=true then pure none else throw (Value.ref e)) Q E { s with heap:=h',toks:=tk }:=fun h' e tk ⟨o,ho,hc⟩ q =>
  wpAny_bind (wpAny_isInstance (T := "StopIteration") (b:=true) ⟨o,ho,hc⟩ isSubtype_stop (wpAny_pure q))
 obtain ⟨way,hTI,⟨a,b,hTO⟩,h1,h2⟩:=hr
 unfold pyNext
 rcases way with hz | ⟨T,oT,bb,hz,hT,nz,nO⟩
 ·have hTy:s.TypeIs (.ref z) "zip":=⟨_,hz,rfl⟩
  refine wpAny_bind (wpAny_attempt (wpAny_callSpecial?_slot (name:=Str.ofString "__next__") hTy F.slot_zip_next
   (wpAny_call_entry F.slot_zip_next hTy F.entry_zip_next (zIV hz hTI hTO hh D1 D2 ap h1 h2 (fun l1 l2 x y h' tk px py a1 a2 a3 a4 a5 a6 hk=>⟨_,rfl,wpAny_pure ?_⟩) (fun ke h' e tk hk he=>?_) hk1 hk2) (F.args_zip_next_1 _))))
  ·exact hQ l1 l2 x y h' tk px py ⟨.busy s.heap.objs.size _ false a1 a5 (lt hz) (lt hTO),hk _ _ ap.TIz ap.TITO ap.TIi1 ap.TIi2 hTI,⟨_,_,a2⟩,a3,a4⟩ a5 hk
  ·exact stop h' e tk he (hE ke h' tk hk)
 ·have hTy:s.TypeIs (.ref z) "zip":=⟨_,hz,rfl⟩
  refine wpAny_bind (wpAny_attempt (wpAny_callSpecial?_slot (name:=Str.ofString "__next__") hTy F.slot_zip_next
   (wpAny_call_entry F.slot_zip_next hTy F.entry_zip_next (zRo hz hT hTI hh D1 D2 ap h1 h2 (fun l1 l2 x y h' tk px py a1 a3 a4 a5 a6 hk=>⟨_,rfl,wpAny_pure ?_⟩) (fun ke h' e tk hk he=>?_) hk1 hk2) (F.args_zip_next_1 _))))
  ·have d1:∃ o,s.heap.get? i1=some o:=(D1 A hh).live _ _ h1
   have d2:∃ o,s.heap.get? i2=some o:=(D2 A hh).live _ _ h2
   by_cases q1:T=i1
   ·obtain ⟨o1,e1⟩:=(D1 A hh).live _ _ a3
    exact hQ l1 l2 x y h' tk px py ⟨.busy T o1 true a1 (q1▸e1) nz nO,hk _ _ ap.TIz ap.TIi1 ap.TIi2 hTI,⟨_,_,hk _ _ ap.TOz ap.TOi1 ap.TOi2 hTO⟩,a3,a4⟩ a5 fun c o c1 _ c3 c4 e=>hk c o c1 c3 c4 e
   ·by_cases q2:T=i2
    ·obtain ⟨o2,e2⟩:=(D2 A hh).live _ _ a4
     exact hQ l1 l2 x y h' tk px py ⟨.busy T o2 true a1 (q2▸e2) nz nO,hk _ _ ap.TIz ap.TIi1 ap.TIi2 hTI,⟨_,_,hk _ _ ap.TOz ap.TOi1 ap.TOi2 hTO⟩,a3,a4⟩ a5 fun c o c1 _ c3 c4 e=>hk c o c1 c3 c4 e
    ·exact hQ l1 l2 x y h' tk px py ⟨.busy T oT true a1 (hk _ _ nz q1 q2 hT) nz nO,hk _ _ ap.TIz ap.TIi1 ap.TIi2 hTI,⟨_,_,hk _ _ ap.TOz ap.TOi1 ap.TOi2 hTO⟩,a3,a4⟩ a5 fun c o c1 _ c3 c4 e=>hk c o c1 c3 c4 e
  ·exact stop h' e tk he (hE ke h' tk fun c o c1 _ c3 c4 q=>hk c o c1 c3 c4 q)
end
open PySem PySem.Spec PyProof.Rows
section
variable {prog:Program}{w:World}{A:Around}{z TI TO i1 i2 d:Addr}{f1 f2:List Addr}{n1 n2:Nat}{P1 P2:Nat→Value→Prop}{S1 S2:Nat→Heap→Prop}
noncomputable abbrev TK2 (prog:Program) (w:World):=tupleKind (zAS prog w)
theorem zOU {h h':Heap}{ks:List Key}{a:Addr} (x:(TK2 prog w).is h ks a) (e:∀ o,h.get? a=some o→h'.get? a=some o):(TK2 prog w).is h' ks a :=
 let ⟨o,its,n,q,r⟩:=x; ⟨o,its,n,e o q,r⟩
def DRaw (prog:Program) (w:World) (h:Heap) (d:Addr) (xs:List (List Key × Addr × Value)):Prop:=∃ o es ep,h.get? d=some o∧o.ExactDict∧o.data=.dict es ep∧es.toList=xs.map (entryOfKey (TK2 prog w))∧(xs.map (·.1)).Nodup
theorem DRaw.of {h:Heap}{xs:List (List Key × Addr × Value)} (x:h.DictOfH (TK2 prog w) d xs):DRaw prog w h d xs:=let ⟨o,es,ep,a,b,c,e,_,f⟩:=x; ⟨o,es,ep,a,b,c,e,f⟩
theorem DRaw.full {h:Heap}{xs:List (List Key × Addr × Value)} (x:DRaw prog w h d xs) (k:∀ q∈xs,(TK2 prog w).is h q.1 q.2.1):h.DictOfH (TK2 prog w) d xs:=let ⟨o,es,ep,a,b,c,e,f⟩:=x; ⟨o,es,ep,a,b,c,e,k,f⟩
theorem DRaw.at {h h':Heap}{xs:List (List Key × Addr × Value)} (x:DRaw prog w h d xs) (e:∀ o,h.get? d=some o→h'.get? d=some o):DRaw prog w h' d xs:=let ⟨o,es,ep,a,r⟩:=x; ⟨o,es,ep,e o a,r⟩
theorem zNG {xs:List (List Key × Addr × Value)}{k:List Key}{a:Addr}{v:Value}{φ:List Key→Addr→Prop} (h:∀ q∈xs,φ q.1 q.2.1) (hk:φ k a):∀ q∈storedH xs k a v,φ q.1 q.2.1:=fun q hq=>by
 unfold storedH at hq
 split at hq
 ·obtain ⟨p,hp,rfl⟩:=qA9.mp hq
  have:=h p hp
  unfold putAt
  split
  ·exact this
  ·exact this
 ·rcases qD2.mp hq with m | m
  ·exact h q m
  ·rw [qE6.mp m]; exact hk
theorem zNH (xs:List (List Key × Addr × Value)) (k:List Key) (a:Addr) (v:Value):(storedH xs k a v).length≤xs.length+1:=by
 unfold storedH
 split
 ·rw [qA2]; omega
 ·simp
theorem ZRun.frame {h h':Heap}{k:Nat} (r:ZRun z TI TO i1 i2 S1 S2 k h) (D1:Draws prog w A i1 f1 n1 P1 S1) (D2:Draws prog w A i2 f2 n2 P2 S2) (e:∀ c o,c≠d→h.get? c=some o→h'.get? c=some o) (hd:∃ o,h'.get? d=some o) (nz:d≠z) (ni:d≠TI) (no:d≠TO) (m1:d∉f1) (m2:d∉f2):ZRun z TI TO i1 i2 S1 S2 k h':=by
 obtain ⟨way,ti,⟨a,b,to⟩,s1,s2⟩:=r
 refine ⟨?_,e _ _ ni.symm ti,⟨a,b,e _ _ no.symm to⟩,D1.frame _ _ _ s1 fun c hc o q=>e c o (fun z=>m1 (z▸hc)) q,D2.frame _ _ _ s2 fun c hc o q=>e c o (fun z=>m2 (z▸hc)) q⟩
 rcases way with hz | ⟨T,oT,bb,hz,hT,n1,n2⟩
 ·exact .fresh (e _ _ nz.symm hz)
 ·by_cases q:T=d
  ·subst q
   obtain ⟨o,ho⟩:=hd
   exact .busy T o bb (e _ _ nz.symm hz) ho n1 n2
  ·exact .busy T oT bb (e _ _ nz.symm hz) (e _ _ q hT) n1 n2
theorem zH2:plainId "dict.update.loop"=true:=by kernel_rfl
theorem zHw:entryFor table "dict.update.loop"=some Builtin.«dict.update.loop»:=by kernel_rfl
theorem zGZ (args:Args):(Code.builtin "dict.update.loop" args).quiet=true:=by kernel_rfl
structure ZAll (prog:Program) (w:World) (z TI TO i1 i2 d:Addr) (f1 f2:List Addr) (n1 n2:Nat) (P1 P2:Nat→Value→Prop) (S1 S2:Nat→Heap→Prop) (ks:List (List Key × Addr × Value)) (h0:Heap):Prop where
 D1:∀ A:Around,A.handled=none→Draws prog w A i1 f1 n1 P1 S1
 D2:∀ A:Around,A.handled=none→Draws prog w A i2 f2 n2 P2 S2
 ap:ZAp z TI TO i1 i2 f1 f2
 m1:i1∈f1
 m2:i2∈f2
 n:ks.length=min n1 n2
 p1:∀ i x q,P1 i x→ks[i]?=some q→x=.ref q.2.1
 p2:∀ i y q,P2 i y→ks[i]?=some q→y=q.2.2
 key:∀ q∈ks,(TK2 prog w).is h0 q.1 q.2.1
 fr:∀ c o,h0.get? c=some o→c≠z∧c≠TO∧c≠i1∧c≠i2∧c≠d
 nz:d≠z
 ni:d≠TI
 no:d≠TO
 d1:d∉f1
 d2:d∉f2
theorem zaL {ks:List (List Key × Addr × Value)}{h0:Heap} (Z:ZAll prog w z TI TO i1 i2 d f1 f2 n1 n2 P1 P2 S1 S2 ks h0) (hh:A.handled=none) (hu:A.units+1<cLine) {R:Result→Shared→Prop}:∀ (m k:Nat) (s:Shared) (xs:List (List Key × Addr × Value)),k+m=ks.length→xs.length+m≤sizeLine→ZRun z TI TO i1 i2 S1 S2 k s.heap→DRaw prog w s.heap d xs→(∀ q∈xs,(TK2 prog w).is h0 q.1 q.2.1)→(∀ c o,h0.get? c=some o→s.heap.get? c=some o) →
  (∀ h' tk,DRaw prog w h' d ((ks.drop k).foldl (fun a q=>storedH a q.1 q.2.1 q.2.2) xs)→(∀ c o,h0.get? c=some o→h'.get? c=some o)→R (.ok (.ret .none)) { s with heap:=h',toks:=tk }) →
  codeAny (model prog w) A (.builtin "dict.update.loop" ⟨[.ref d,.ref z,rawInt (k:Int),.none],[]⟩) R s:=by
 intro m
 induction m with
 | zero =>
  intro k s xs hk hl zr dr kx he hR
  refine codeAny_builtin zHw ?_
  rw [Around.under_plainId zH2]
  show wpAny _ _ (pyNext (.ref z) >>= _) _ _ _
  have hn:=Z.n
  refine wpAny_bind (zMx zr hh Z.D1 Z.D2 Z.ap Z.m1 Z.m2 (fun l1 l2=>by omega) (fun _ h' tk kp=>?_) (by omega) (by omega))
  show wpAny _ _ (Builtin.Dict.addKeywords d [] >>= _) _ _ _
  refine wpAny_bind (wpAny_pure ?_)
  refine wpAny_pure ?_
  have e0:ks.drop k=[]:=qO1 (by omega)
  rw [e0] at hR
  obtain ⟨o,es,ep,ho,r⟩:=dr
  have ne:d≠i1∧d≠i2:=⟨fun q=>Z.d1 (q▸Z.m1),fun q=>Z.d2 (q▸Z.m2)⟩
  exact hR h' tk ⟨o,es,ep,kp _ _ Z.nz Z.no ne.1 ne.2 ho,r⟩ fun c o q=>let ⟨a1,a2,a3,a4,_⟩:=Z.fr c o q; kp c o a1 a2 a3 a4 (he c o q)
 | succ m ih =>
  intro k s xs hk hl zr dr kx he hR
  refine codeAny_builtin zHw ?_
  rw [Around.under_plainId zH2]
  show wpAny _ _ (pyNext (.ref z) >>= _) _ _ _
  have hn:=Z.n
  have kl:k<ks.length:=by omega
  have hq:ks[k]?=some ks[k]:=qA0 kl
  have ne:d≠i1∧d≠i2:=⟨fun q=>Z.d1 (q▸Z.m1),fun q=>Z.d2 (q▸Z.m2)⟩
  refine wpAny_bind (zMx zr hh Z.D1 Z.D2 Z.ap Z.m1 Z.m2 (fun l1 l2 x y h1 tk px py zr1 pr kp=>?_) (fun q=>by omega) (by omega) (by omega))
  have ex:=Z.p1 k x _ px hq
  have ey:=Z.p2 k y _ py hq
  subst ex ey
  have e1:∀ c o,h0.get? c=some o→h1.get? c=some o:=fun c o q=>let ⟨a1,a2,a3,a4,_⟩:=Z.fr c o q; kp c o a1 a2 a3 a4 (he c o q)
  have dr1:DRaw prog w h1 d xs:=dr.at fun o q=>kp _ _ Z.nz Z.no ne.1 ne.2 q
  show wpAny _ _ (holding _ _ >>= _) _ _ _
  refine wpAny_bind (wpAny_holding (wpAny_bind (wpAny_tryCatch ?_)))
  unfold Builtin.Dict.pairItems
  refine wpAny_bind (wpAny_typeOf (T := "tuple") ⟨_,pr,rfl⟩ ?_)
  show wpAny _ _ (seqItems? _ >>= _) _ _ _
  refine wpAny_bind (wpAny_seqItems pr rfl (wpAny_pure ?_))
  show wpAny _ _ (holding _ (dictSet d (.ref ks[k].2.1) ks[k].2.2)) _ _ _
  have mk:ks[k]∈ks:=qD1 kl
  refine wpAny_holding (wpAny_dictSet_heap (knd:=TK2 prog w) (tupleKind_room_in1 hu) (zOU (Z.key _ mk) fun o q=>e1 _ o q) (dr1.full fun q hq=>zOU (kx q hq) fun o z=>e1 _ o z) (fun h2 dd hs=>?_) (by omega))
  refine wpAny_pure ⟨zGZ _,?_⟩
  show codeAny _ _ (.builtin "dict.update.loop" ⟨[.ref d,.ref z,rawInt ((k:Int)+1),.none],[]⟩) _ _
  have hd2:∃ o,h2.get? d=some o:=let ⟨o,_,_,q,_⟩:=dd; ⟨o,q⟩
  refine ih (k+1) _ _ (by omega) (by have:=zNH xs ks[k].1 ks[k].2.1 ks[k].2.2; omega) (zr1.frame (Z.D1 A hh) (Z.D2 A hh) (fun c o n q=>hs.extBut _ _ n q) hd2 Z.nz Z.ni Z.no Z.d1 Z.d2) (.of dd) (zNG kx (Z.key _ mk)) (fun c o q=>hs.extBut _ _ (Z.fr c o q).2.2.2.2 (e1 c o q)) fun h' tk' dr' ex=>hR h' tk' ?_ ex
  rw [qG7 kl]
  exact dr'
end
open PySem PySem.Spec PyProof.Rows
section
variable {prog:Program}{w:World}{A:Around}{E:Value→Shared→Prop}{s:Shared}
theorem zL1 {z TI TO i1 i2:Addr}{f1 f2:List Addr}{n1 n2:Nat}{P1 P2:Nat→Value→Prop}{S1 S2:Nat→Heap→Prop}{ks:List (List Key × Addr × Value)}{h0:Heap}{Q:Value→Shared→Prop}
  (Z:ZAll prog w z TI TO i1 i2 s.heap.objs.size f1 f2 n1 n2 P1 P2 S1 S2 ks h0) (hh:A.handled=none) (hu:A.units+3<cLine) (hz:IsZip s.heap z TI TO .none) (zr:ZRun z TI TO i1 i2 S1 S2 0 s.heap) (hl:ks.length≤sizeLine) (he:∀ c o,h0.get? c=some o→s.heap.get? c=some o)
  (hQ:∀ h' tk,DRaw prog w h' s.heap.objs.size (ks.foldl (fun a q=>storedH a q.1 q.2.1 q.2.2) [])→(∀ c o,h0.get? c=some o→h'.get? c=some o)→Q (.ref s.heap.objs.size) { s with heap:=h',toks:=tk }) :
  wpAny (model prog w) A (call (.type "dict") [.ref z]) Q E s:=by
 refine callType_codes F.kt_called_dict (F.kt_typeCall_dict_1 _) F.entry_dict_init (kt_code_dict_new (Q₁:=fun obj s1=>obj=.ref s.heap.objs.size∧s1={ s with heap:=s.heap.push { cls:=.type "dict",data:=.dict #[] } }) _ ⟨rfl,rfl⟩) fun obj s1 hq=>?_
 obtain ⟨rfl,rfl⟩:=hq
 have g0:(s.heap.push { cls:=Value.type "dict",data:=Data.dict #[] }).get? s.heap.objs.size=some { cls:=Value.type "dict",data:=Data.dict #[] }:=qB4 _ rfl
 have ty:Shared.TypeIs { s with heap:=s.heap.push { cls:=Value.type "dict",data:=Data.dict #[] } } (.ref s.heap.objs.size) "dict":=⟨_,g0,rfl⟩
 refine ⟨ty,F.args_dict_init_2 _ _,?_⟩
 unfold Builtin.«dict.__init__» Builtin.Dict.selfAndRest
 refine wpAny_bind (wpAny_bind (wpAny_notOrdered_dict ty ?_))
 refine wpAny_bind (wpAny_pure (wpAny_pure ?_))
 show wpAny _ _ (Builtin.Dict.updateFrom "dict.__init__" s.heap.objs.size (.ref z) [] .none) _ _ _
 unfold Builtin.Dict.updateFrom
 have hz1:IsZip (s.heap.push { cls:=Value.type "dict",data:=Data.dict #[] }) z TI TO .none:=qA4 _ hz
 refine wpAny_bind (wpAny_typeOf (T := "zip") ⟨_,hz1,rfl⟩ ?_)
 show wpAny _ _ (getAttr? (.ref z) (Str.ofString "keys") >>= _) _ _ _
 refine wpAny_bind (zNT hz1 hh fun h2 tk k2=>?_)
 refine wpAny_bind (wpAny_rule ?_)
 have hz2:IsZip h2 z TI TO .none:=k2 _ _ hz1
 refine wpAny_bind (wpAny_pyIter_zip hz2 ?_)
 refine wpAny_pure ⟨zGZ _,?_⟩
 have zr2:ZRun z TI TO i1 i2 S1 S2 0 h2:=zr.frame (Z.D1 A hh) (Z.D2 A hh) (fun c o _ q=>k2 _ _ (qA4 _ q)) ⟨_,k2 _ _ g0⟩ Z.nz Z.ni Z.no Z.d1 Z.d2
 have d2:DRaw prog w h2 s.heap.objs.size []:=(DRaw.of (Heap.DictOfH.new s.heap)).at fun o q=>k2 _ o q
 refine zaL (A:=A.in1) Z hh (by show A.units+1+1<cLine; omega) ks.length 0 { s with heap:=h2,toks:=tk } [] (by omega) (by simpa using hl) zr2 d2 (fun q h=>by cases h) (fun c o q=>k2 _ _ (qA4 _ (he c o q))) fun h' tk' dr ex=>⟨rfl,hQ h' tk' (by simpa using dr) ex⟩
end
noncomputable def KRw (H:Hp):List (List Key)→List V→Prop:=Paired fun k v=>∃ a,v=.ref a∧H a=some (.tup (k.map kV))
noncomputable def zFS (kvs ps:List (List Key × V)):List (List Key × V):=ps.foldl (fun acc q=>putK acc q.1 q.2) kvs
noncomputable def stoF (zs ks:List (List Key × Addr × Value)):List (List Key × Addr × Value):=ks.foldl (fun a q=>storedH a q.1 q.2.1 q.2.2) zs
inductive zb3 (H:Hp) (kvs:List (List Key × V)) (zs:List (List Key × Addr × Value)) (ps:List (List Key × V)) (u1 u2:List Value):Prop
 | mk (ks:List (List Key × Addr × Value)) (r:KT H (zFS kvs ps) (stoF zs ks)) (n:ks.length=min u1.length u2.length) (p1:∀ (i:Nat) (x:Value) (q:List Key × Addr × Value),u1[i]?=some x→ks[i]?=some q→x=.ref q.2.1) (p2:∀ (i:Nat) (y:Value) (q:List Key × Addr × Value),u2[i]?=some y→ks[i]?=some q→y=q.2.2) (k:∀ q∈ks,H q.2.1=some (.tup (q.1.map kV)))
theorem zUT {H:Hp}{kks:List (List Key)}{xs:List V} (kr:KRw H kks xs):∀ {ys:List V}{u1 u2:List Value},Vals xs u1→Vals ys u2→∀ {kvs:List (List Key × V)}{zs:List (List Key × Addr × Value)},KT H kvs zs→zb3 H kvs zs (kks.zip ys) u1 u2:=by
 induction kr with
 | nil =>
  intro ys u1 u2 r1 r2 kvs zs r
  cases r1
  exact ⟨[],by simpa [zFS,stoF] using r,by simp,fun i x q e=>by simp at e,fun i y q _ e=>by simp at e,fun q h=>by cases h⟩
 | @cons k x kks xs hx t ih =>
  intro ys u1 u2 r1 r2 kvs zs r
  obtain ⟨a,rfl,ha⟩:=hx
  cases r1 with
  | @cons _ v _ u1 rv r1 =>
   cases (show v=Value.ref a from rv)
   cases r2 with
   | nil=>exact ⟨[],by simpa [zFS,stoF] using r,by simp,fun i x q _ e=>by simp at e,fun i y q _ e=>by simp at e,fun q h=>by cases h⟩
   | @cons y u ys u2 ry r2 =>
    obtain ⟨ks,r',n,p1,p2,kk⟩:=ih r1 r2 (r.put k ha ry)
    refine ⟨(k,a,u)::ks,r',by simp [n],fun i x q e1 e2=>?_,fun i y q e1 e2=>?_,fun q h=>?_⟩
    ·cases i with
     | zero=>simp at e1 e2; subst e1 e2; rfl
     | succ i=>exact p1 i x q (by simpa using e1) (by simpa using e2)
    ·cases i with
     | zero=>simp at e1 e2; subst e1 e2; rfl
     | succ i=>exact p2 i y q (by simpa using e1) (by simpa using e2)
    ·rcases qB7.mp h with rfl | h
     ·exact ha
     ·exact kk q h
theorem zKC:∀ (ps kvs:List (List Key × V)),(zFS kvs ps).length≤kvs.length+ps.length
 | [],kvs=>qB0 _
 | p::r,kvs=>by
  have h1:=zKC r (putK kvs p.1 p.2)
  have h2:=zDA kvs p.1 p.2
  show (zFS (putK kvs p.1 p.2) r).length≤_
  rw [qD0]; omega
section
variable {X:Cx}{a b:Expr}{ta:TA}{p p2 pos pos2:Pos}
noncomputable def zMH (K:W.Frag) (ta:TA):TE:=fun σ H Q=>ta σ H fun vs H1=>∃ l1 l2 b1 b2 xs ys kks,vs=[.ref l1,.ref l2]∧SqX b1 K H1 l1 xs∧SqX b2 K H1 l2 ys∧KRw H1 kks xs∧xs.length≤sizeLine∧∀ q o,H1 q=none→Q (.ref q) (upd H1 q (.frz o (.dT (zFS [] (kks.zip ys)))))
theorem KRw.length {H:Hp}{kks:List (List Key)}{xs:List V} (r:KRw H kks xs):kks.length=xs.length:=Paired.length r
theorem zNR (hc:X.calm=true) (hu:X.A.units+3<cLine) (hg:Gl X "dict") (hm:X.mg "dict"=none) (hg2:Gl X "zip") (hm2:X.mg "zip"=none) (ha:PA X [a,b] ta) (hs:starEach [a,b] X.env=[(false,eval a X.env),(false,eval b X.env)]:=by rfl) (hs2:starEach [b] X.env=[(false,eval b X.env)]:=by rfl) :
  PE X (.Call (.Name "dict" p) [.Call (.Name "zip" p2) [a,b] [] pos2] [] pos) (zMH X.K ta):=by
 intro pins s σ H Q I h
 refine wpAny_Call_Name_kw (zFf I hg hm PyProof.Rows.boot_dict ?_)
 refine PyProof.Rows.callWith_type1 ?_ rfl rfl
 refine Calls.spliced_cons (Call_ (zFf I hg2 hm2 zTs (PyProof.Rows.callWith_type1 (thn (ha pos2 pins s σ H _ I h) fun us s1 ⟨vs,H1,I1,r1,q1⟩=>?_) (by rw [hs,hs2]) (by rw [hs2]; rfl))))
 obtain ⟨l1,l2,b1,b2,xs,ys,kks,e,h1,h2,kr,hl,q⟩:=q1
 subst e
 cases r1 with
 | cons r rr =>
  cases rr with
  | cons r' rr =>
   cases rr
   cases r
   cases r'
   obtain ⟨its1,v1,p1⟩:=I1.sqX h1
   obtain ⟨its2,v2,p2⟩:=I1.sqX h2
   refine zKT p1 p2 fun h' hz hTI hTO hi1 hi2 hk=>Calls.spliced_nil ?_
   obtain ⟨ks,rk,n,q1,q2,kk⟩:=zUT kr v1 v2 (kvs:=[]) (zs:=[]) .nil
   have zl:s1.heap.objs.size+4<h'.objs.size:=qB1 hz
   have lt0:∀ c o,s1.heap.get? c=some o→c<s1.heap.objs.size:=fun c o e=>qB1 e
   have t1:=p1.lt
   have t2:=p2.lt
   have Z:ZAll X.prog X.w (s1.heap.objs.size+4) (s1.heap.objs.size+2) (s1.heap.objs.size+3) s1.heap.objs.size (s1.heap.objs.size+1) h'.objs.size [s1.heap.objs.size,l1] [s1.heap.objs.size+1,l2] its1.toArray.size its2.toArray.size (fun i v=>its1.toArray[i]?=some v) (fun i v=>its2.toArray[i]?=some v) (fun i h=>ItX b1 h s1.heap.objs.size l1 i∧IsX b1 h l1 its1.toArray) (fun i h=>ItX b2 h (s1.heap.objs.size+1) l2 i∧IsX b2 h l2 its2.toArray) ks s1.heap:=by
    refine ⟨fun A hh=>zGh b1 hh _ l1 (qC3 t1) its1.toArray,fun A hh=>zGh b2 hh _ l2 (qC3 (qG0 t2)) its2.toArray,zOM t1 t2,by simp,by simp,by simpa using n,fun i x q e1 e2=>q1 i x q (by simpa using e1) e2,fun i y q e1 e2=>q2 i y q (by simpa using e1) e2,fun q hq=>zIz I1.hok (kk q hq),fun c o e=>?_,?_,?_,?_,?_,?_⟩
    ·have:=lt0 c o e
     simp only [Addr] at *
     refine ⟨?_,?_,?_,?_,?_⟩ <;> omega
    ·simp only [Addr] at *; omega
    ·simp only [Addr] at *; omega
    ·simp only [Addr] at *; omega
    ·simp only [Addr,qB7,qF7,or_false,not_or] at *; omega
    ·simp only [Addr,qB7,qF7,or_false,not_or] at *; omega
   have hlen:ks.length≤sizeLine:=by rw [n,← v1.length]; omega
   refine zL1 (s:={ s1 with heap:=h' }) Z (I1.ok.hd hc) hu hz ⟨.fresh hz,hTI,⟨_,_,hTO⟩,⟨hi1,?_⟩,⟨hi2,?_⟩⟩ hlen hk fun h'' tk dr ex=>?_
   ·cases b1 with
    | true=>exact qH5.at p1 fun o e=>hk _ o e
    | false=>exact qJ3.at p1 fun o e=>hk _ o e
   ·cases b2 with
    | true=>exact qH5.at p2 fun o e=>hk _ o e
    | false=>exact qJ3.at p2 fun o e=>hk _ o e
   have le:s1.heap.objs.size≤h'.objs.size:=by simp only [Addr] at *; omega
   obtain ⟨o,es,ep,g1,g2,g3,g4,g5⟩:=dr
   refine ⟨.ref h'.objs.size,_,I1.laid (t':=tk) (o:=.frz o (.dT (zFS [] (kks.zip ys)))) ex le ?_,rfl,q _ o (I1.hok.fresh le)⟩
   have hd:(h'.objs.size == sysModules)=false:=beq_eq_false_iff_ne.mpr (Ne.symm (qC3 (qB8 I1.big le)))
   have fl:=zKC (kks.zip ys) []
   have zl:(kks.zip ys).length≤xs.length:=by rw [qG8,KRw.length kr]; omega
   refine ⟨g1,qC6 fl (by rw [qM0,Nat.zero_add]; exact qC6 zl hl),hd,_,rk.keeps fun c zs ec=>?_,o,es,ep,g1,g2,g3,g4,g5⟩
   rw [zAi (fun z=>by rw [z,I1.hok.fresh le] at ec; cases ec)]
   exact ec
end
open PySem PySem.Spec PyProof.Rows
section
variable {prog:Program}{w:World}{A:Around}{E:Value→Shared→Prop}{s:Shared}{it d:Addr}{i ep:Nat}{es:Array DictEntry}
theorem zay {e:DictEntry}{Q:Option Value→Shared→Prop} (hit:s.heap.IsKeyIter it d i es.size ep) (hr:Raw s.heap d es ep) (hx:es[i]?=some e)
  (hQ:∀ h',h'.IsKeyIter it d (i+1) es.size ep→qE2 it s.heap h'→Q (some e.key) { s with heap:=h' }):wpAny (model prog w) A (pyNext (.ref it)) Q E s:=by
 have ty:=hit.typeIs
 obtain ⟨o,ho,hc,hd⟩:=id hit
 obtain ⟨od,hod,_,hdd⟩:=hr
 unfold pyNext
 refine wpAny_bind (wpAny_attempt (wpAny_callSpecial?_slot (name:=Str.ofString "__next__") ty F.slot_dict_keyiterator_next (wpAny_call_entry F.slot_dict_keyiterator_next ty F.entry_dict_keyiterator_next ?_ (F.args_dict_keyiterator_next_1 _))))
 refine wpAny_bind (wpAny_pure (wpAny_bind (wpAny_bind (wpAny_bind (wpAny_typeNameOfWhole_keyiter ty (wpAny_pure (wpAny_bind (wpAny_fieldsOf ho hd ?_))))))))
 have o1:Builtin.Dict_items.ownsTuple "dict_keyiterator"=false:=by decide
 have n1:¬ ((Value.ref d == Value.none)=true):=qA7
 simp only [o1,qF2,if_false]
 show wpAny _ _ (if (Value.ref d == Value.none)=true then _ else _) _ _ s
 rw [if_neg n1]
 refine wpAny_bind (wpAny_pure (wpAny_bind (wpAny_dictEntries hod hdd ?_)))
 rw [if_neg (by simp)]
 refine wpAny_bind (wpAny_pure (wpAny_bind (wpAny_dictEpoch hod hdd ?_)))
 rw [if_neg (by simp)]
 refine wpAny_pure ?_
 have n2:¬ ((i:Int)<0):=by omega
 simp only [n2,if_false,qE8,hx]
 refine wpAny_bind (wpAny_bind (wpAny_typeNameOfWhole_keyiter ty (wpAny_pure (wpAny_bind (wpAny_isOneOf_keyiter ty ?_)))))
 show wpAny _ _ (setField (.ref it) 1 (rawInt ((i:Int)+1)) >>= _) _ _ s
 refine wpAny_bind (wpAny_setField ho hd (by simp) ?_)
 have it2:(s.heap.update it (Obj.mapFields (·.setIfInBounds 1 (rawInt ((i:Int)+1))))).IsKeyIter it d (i+1) es.size ep :=
  ⟨_,qI9 _ ho (Obj.isFreed_of_fields (Obj.data_mapFields hd _)),(Obj.cls_mapFields ..).trans hc,by rw [Obj.data_mapFields hd]; simp [rawInt]⟩
 have ty2:Shared.TypeIs { s with heap:=s.heap.update it (Obj.mapFields (·.setIfInBounds 1 (rawInt ((i:Int)+1)))) } (.ref it) "dict_keyiterator":=it2.typeIs
 refine wpAny_bind (wpAny_holding (wpAny_bind (wpAny_isOneOf_keyiter ty2 ?_)))
 show wpAny _ _ (pure e.key) _ _ _
 exact wpAny_pure (wpAny_pure ⟨_,rfl,wpAny_pure (hQ _ it2 (qE2.update ..))⟩)
theorem kend {Q:Option Value→Shared→Prop} (hh:A.handled=none) (hit:s.heap.IsKeyIter it d i es.size ep) (hr:Raw s.heap d es ep) (hx:es[i]?=none)
  (hQ:∀ h',qO8 it s.heap h'→Q none { s with heap:=h' }):wpAny (model prog w) A (pyNext (.ref it)) Q E s:=by
 have ty:=hit.typeIs
 obtain ⟨o,ho,hc,hd⟩:=id hit
 obtain ⟨od,hod,_,hdd⟩:=hr
 unfold pyNext
 refine wpAny_bind (wpAny_attempt (wpAny_callSpecial?_slot (name:=Str.ofString "__next__") ty F.slot_dict_keyiterator_next (wpAny_call_entry F.slot_dict_keyiterator_next ty F.entry_dict_keyiterator_next ?_ (F.args_dict_keyiterator_next_1 _))))
 refine wpAny_bind (wpAny_pure (wpAny_bind (wpAny_bind (wpAny_bind (wpAny_typeNameOfWhole_keyiter ty (wpAny_pure (wpAny_bind (wpAny_fieldsOf ho hd ?_))))))))
 have o1:Builtin.Dict_items.ownsTuple "dict_keyiterator"=false:=by decide
 have n1:¬ ((Value.ref d == Value.none)=true):=qA7
 simp only [o1,qF2,if_false]
 show wpAny _ _ (if (Value.ref d == Value.none)=true then _ else _) _ _ s
 rw [if_neg n1]
 refine wpAny_bind (wpAny_pure (wpAny_bind (wpAny_dictEntries hod hdd ?_)))
 rw [if_neg (by simp)]
 refine wpAny_bind (wpAny_pure (wpAny_bind (wpAny_dictEpoch hod hdd ?_)))
 rw [if_neg (by simp)]
 refine wpAny_pure ?_
 have n2:¬ ((i:Int)<0):=by omega
 simp only [n2,if_false,qE8,hx]
 refine wpAny_bind (wpAny_bind (wpAny_typeNameOfWhole_keyiter ty (wpAny_pure ?_)))
 refine wpAny_bind (wpAny_setField (i:=0) ho hd (by simp) ?_)
 show wpAny _ A.in1 (newExc (.type "StopIteration") [] >>= _) _ _ _
 unfold newExc newTuple
 refine wpAny_bind (wpAny_bind (wpAny_newObj_type (wpAny_bind (m:=firstArgMember _ _) (wpAny_of_eq (a:=Value.none) (by simp only [firstArgMember]; rfl) (wpAny_newObj_type ?_ (by size_fits)))) (by size_fits)))
 refine wpAny_raiseNew_none hh ?_
 refine wpAny_bind (wpAny_isInstance (T := "StopIteration") (b:=true) ⟨_,qB4 _ rfl,rfl⟩ isSubtype_stop ?_)
 exact wpAny_pure (hQ _ (((qE2.update ..).extBut.push _).push _))
theorem zSm {Q:Value→Shared→Prop} (lo:(d == sysModules)=false) (hr:Raw s.heap d es ep)
  (hQ:Q (.ref s.heap.objs.size) { s with heap:=s.heap.push { cls:=.type "dict_keyiterator",data:=.fields #[.ref d,.int 0 0,.int es.size 0,.int ep 0] } }):wpAny (model prog w) A (pyIter (.ref d)) Q E s:=by
 obtain ⟨o,ho,hc,hdat⟩:=hr
 have ty:s.TypeIs (.ref d) "dict":=⟨o,ho,hc⟩
 refine wpAny_pyIter_slot ty F.slot_dict_iter (wpAny_call_entry F.slot_dict_iter ty F.entry_dict_iter ?_ (F.args_dict_iter_1 _))
 unfold Builtin.«dict.__iter__» Builtin.Dict.dictSlotNone
 refine wpAny_bind (wpAny_bind (wpAny_notOrdered_dict ty (wpAny_bind (wpAny_pure (wpAny_pure ?_)))))
 refine wpAny_bind (wpAny_pure ?_)
 show wpAny _ _ (Builtin.Dict.showsAll d >>= _) _ _ _
 unfold Builtin.Dict.showsAll
 rw [if_neg (by rw [lo]; exact qA7)]
 refine wpAny_bind (wpAny_pure (wpAny_bind (wpAny_dictEntries ho hdat (wpAny_bind (wpAny_dictEpoch ho hdat ?_)))))
 show wpAny _ _ (newFields _ _ >>= _) _ _ _
 unfold newFields
 refine wpAny_bind (wpAny_newObj_type (wpAny_pure ⟨_,rfl,"dict_keyiterator",_,⟨_,qB4 _ rfl,rfl⟩,F.slot_dict_keyiterator_next.lookup,?_⟩))
 simpa [rawInt] using hQ
end
theorem zIv {α β:Type}{R:α→β→Prop}{xs:List α}{ys:List β} (r:Paired R xs ys):∀ {i:Nat}{y:β},ys[i]?=some y→∃ x,xs[i]?=some x∧R x y:=by
 induction r with
 | nil=>intro i y e; simp at e
 | cons h t ih =>
  intro i y e
  cases i with
  | zero=>simp at e; subst e; exact ⟨_,rfl,h⟩
  | succ i=>exact ih (by simpa using e)
noncomputable def Itd (a:Addr) (o:Obj):It :=
 ⟨fun i H=>∃ kvs,H a=some (.frz o (.dT kvs))∧i<kvs.length,fun i H x H'=>H'=H∧∀ kvs,H a=some (.frz o (.dT kvs))→∃ p b,kvs[i]?=some p∧x=.ref b∧H b=some (.tup (p.1.map kV)),fun i H=>∃ kvs,H a=some (.frz o (.dT kvs))∧kvs.length≤i⟩
inductive FzD (X:Cx) (H:Hp) (h:Heap) (a:Addr) (o:Obj) (kvs:List (List Key × V)):Prop
 | mk (es:Array DictEntry) (ep:Nat) (xs:List (List Key × Addr × Value)) (g:h.get? a=some o) (c:o.cls=.type "dict") (d:o.data=.dict es ep) (r:KT H kvs xs) (e:es.toList=xs.map (entryOfKey (tupleKind (zAS X.prog X.w)))) (lo:(a == sysModules)=false) (z:kvs.length≤sizeLine)
theorem zV3 {X:Cx}{pins:List (Addr × Obj)}{σ:St}{H:Hp}{s:Shared}{a:Addr}{o:Obj}{kvs:List (List Key × V)} (I:Inv X pins σ H s) (e:H a=some (.frz o (.dT kvs))):FzD X H s.heap a o kvs:=by
 obtain ⟨g,z,lo,xs,r,o',es,ep,g1,g2,g3,g4,g5⟩:=(show zCE X.prog X.w H s.heap a (.frz o (.dT kvs)) from I.hok a _ e)
 rw [g] at g1
 cases g1
 exact ⟨es,ep,xs,g,g2.1,g3,r,g4,lo,z⟩
theorem zNB {P:Program}{w:World}{K:W.Frag}{tg:Expr} (a it:Addr) (o:Obj) (es:Array DictEntry) (ep:Nat) (ho:o.data=.dict es ep):Turn P w K tg (Itd a o) [it] it (fun i h=>h.IsKeyIter it a i es.size ep) where
 mem:=by simp
 obj:=fun i h st b hb=>by
  have e:b=it:=by simpa using hb
  subst e
  obtain ⟨o,e,c,d⟩:=st
  exact ⟨o,e,fun v z=>by rw [d] at z; cases z⟩
 keep:=fun i h h' st k=>st.at fun o e=>k it (by simp) o e
 item:=by
  intro X hP hw hK hc i pins s σ H E I hf st hg
  subst hP hw hK
  obtain ⟨kvs,hq,hi⟩:=hg
  obtain ⟨es',ep',xs,g,c,d,r,e,lo,z⟩:=zV3 I hq
  rw [ho] at d
  cases d
  obtain ⟨f0,f1,f2,f3,f4,f5⟩:=hf it (by simp)
  have hxs:i<xs.length:=by rw [← Paired.length r]; exact hi
  obtain ⟨q,hq2⟩:∃ q,xs[i]?=some q:=⟨_,qA0 hxs⟩
  have hes:es[i]?=some (entryOfKey (tupleKind (zAS X.prog X.w)) q):=by rw [← Array.getElem?_toList,e,qA6,hq2]; rfl
  refine zay st ⟨o,g,c,ho⟩ hes fun h' st' sb=>?_
  have I1:Inv X pins σ H { s with heap:=h' }:=I.turned (t':=s.toks) (fun b o hb e=>(sb.2 b hb).trans e) f0 f1 f3 f4 f5
  obtain ⟨oi,ei,ci,di⟩:=id st'
  refine ⟨_,rfl,zSz (s:={ s with heap:=h' }) ei ci di (by decide) ⟨.ref q.2.1,H,I1,rfl,⟨rfl,fun kvs' h2=>?_⟩,st',fun b hb=>(hf b hb).1⟩⟩
  rw [hq] at h2
  cases h2
  obtain ⟨p,hp,hr⟩:=zIv r hq2
  exact ⟨p,q.2.1,hp,rfl,hr.2.1⟩
 done:=by
  intro X hP hw hK hc i pins s σ H E I hf st hg
  subst hP hw hK
  obtain ⟨kvs,hq,hi⟩:=hg
  obtain ⟨es',ep',xs,g,c,d,r,e,lo,z⟩:=zV3 I hq
  rw [ho] at d
  cases d
  obtain ⟨f0,f1,f2,f3,f4,f5⟩:=hf it (by simp)
  have hes:es[i]?=none:=by rw [← Array.getElem?_toList,e,qA6,qF6 (by rw [← Paired.length r]; exact hi)]; rfl
  exact kend (I.ok.hd hc) st ⟨o,g,c,ho⟩ hes fun h' eb=>⟨rfl,I.turned (t':=s.toks) (fun b o hb e=>eb b o hb e) f0 f1 f3 f4 f5⟩
 self:=fun _ _ _ _ _ st h=>wpAny_pyIter_keyiter st h
open PySem PySem.Spec PyProof.Rows
def Rs (xs:Array Nat):Prop:=xs.toList.Pairwise (·<·)
theorem Rs.get {xs:Array Nat} (h:Rs xs) {i j a b:Nat} (ha:xs[i]?=some a) (hb:xs[j]?=some b) (l:i<j):a<b:=by
 rw [← Array.getElem?_toList] at ha hb
 obtain ⟨hi,rfl⟩:=qA5.mp ha
 obtain ⟨hj,rfl⟩:=qA5.mp hb
 exact qN0.mp h i j hi hj l
def Bl (xs:Array Nat) (j r:Nat):Prop:=r≤xs.size∧(∀ i a,xs[i]?=some a→i<r→a<j)∧∀ i a,xs[i]?=some a→r≤i→j≤a
theorem zJz {xs:Array Nat} (h:Rs xs) (j:Nat):∀ (n lo hi:Nat),hi - lo≤n→lo≤hi→hi≤xs.size→(∀ i a,xs[i]?=some a→i<lo→a<j)→(∀ i a,xs[i]?=some a→hi≤i→j≤a)→Bl xs j (SetTable.below.go xs j n lo hi)
 | 0,lo,hi,h1,h2,h3,h4,h5=>by
  have e:lo=hi:=by omega
  subst e
  exact ⟨h3,h4,h5⟩
 | n+1,lo,hi,h1,h2,h3,h4,h5=>by
  unfold SetTable.below.go
  split
  ·rename_i hl
   have hm:(lo+hi) / 2<xs.size:=by omega
   have hx:xs[(lo+hi) / 2]?=some xs[(lo+hi) / 2]:=Array.getElem?_eq_getElem hm
   have hg:xs.getD ((lo+hi) / 2) j=xs[(lo+hi) / 2]:=by simp [Array.getD,hm]
   simp only [hg]
   split
   ·rename_i hs
    refine zJz h j n _ hi (by omega) (by omega) h3 (fun i a ha hi2=>?_) h5
    by_cases e:i=(lo+hi) / 2
    ·subst e
     rw [hx] at ha
     cases ha
     exact hs
    ·exact Nat.lt_trans (h.get ha hx (by omega)) hs
   ·rename_i hs
    refine zJz h j n lo _ (by omega) (by omega) (by omega) h4 (fun i a ha hi2=>?_)
    by_cases e:i=(lo+hi) / 2
    ·subst e
     rw [hx] at ha
     cases ha
     omega
    ·have:=h.get hx ha (by omega)
     omega
  ·have e:lo=hi:=by omega
   subst e
   exact ⟨h3,h4,h5⟩
theorem zST {xs:Array Nat} (h:Rs xs) (j:Nat):Bl xs j (SetTable.below xs j):=by
 refine zJz h j _ 0 xs.size (by omega) (by omega) (qB0 _) (fun i a _ l=>absurd l (qR3 _)) fun i a ha l=>?_
 have:i<xs.size:=by
  rcases Nat.lt_or_ge i xs.size with g | g
  ·exact g
  ·rw [Array.getElem?_eq_none g] at ha; cases ha
 omega
theorem Rs.insert {xs:Array Nat} (h:Rs xs) {j:Nat} (hn:xs[SetTable.below xs j]?≠some j):Rs (SetTable.insertAt xs (SetTable.below xs j) j):=by
 obtain ⟨b1,b2,b3⟩:=zST h j
 unfold Rs
 rw [SetTable.toList_insertAt]
 have e:xs.toList=xs.toList.take (SetTable.below xs j)++xs.toList.drop (SetTable.below xs j):=(qL0 _ _).symm
 have h':=h
 unfold Rs at h'
 rw [e,qO9] at h'
 obtain ⟨p1,p2,p3⟩:=h'
 have q1:∀ a∈xs.toList.take (SetTable.below xs j),a<j:=fun a ha=>by
  obtain ⟨i,hi,rfl⟩:=qM2 ha
  rw [qI0] at hi
  refine b2 i _ ?_ (by omega)
  rw [← Array.getElem?_toList,List.getElem_take]
  exact qA0 _
 have q2:∀ a∈xs.toList.drop (SetTable.below xs j),j<a:=fun a ha=>by
  obtain ⟨i,hi,rfl⟩:=qM2 ha
  rw [qG4] at hi
  have g:xs[SetTable.below xs j+i]?=some ((xs.toList.drop (SetTable.below xs j))[i]):=by
   rw [← Array.getElem?_toList,List.getElem_drop]
   exact qA0 _
  have l:=b3 _ _ g (by omega)
  rcases Nat.lt_or_eq_of_le l with l | l
  ·exact l
  ·exfalso
   by_cases e0:i=0
   ·subst e0
    rw [← l] at g
    exact hn g
   ·have hlt:SetTable.below xs j<xs.size:=by rw [Array.length_toList] at hi; omega
    have hr:xs[SetTable.below xs j]?=some xs[SetTable.below xs j]:=Array.getElem?_eq_getElem hlt
    have:=h.get hr g (by omega)
    have:=b3 _ _ hr (qB0 _)
    omega
 rw [qO9,qI2]
 refine ⟨p1,⟨q2,p2⟩,fun a ha b hb=>?_⟩
 rcases qB7.mp hb with rfl | hb
 ·exact q1 a ha
 ·exact p3 a ha b hb
theorem zJX {t:SetTable}{j:Nat} (h:(∃ i,t.slot j=.live i)→False):t.place[SetTable.below t.place j]?≠some j:=by
 intro e
 refine h ⟨SetTable.below t.place j,?_⟩
 unfold SetTable.slot
 simp only [e,beq_self_eq_true,if_true]
theorem zJa {t:SetTable}{f:Nat→Int}{h:Int}:∀ (n:Nat) (p:SetTable.Probe) {j:Nat}{d:Option Nat},(∀ x,p.dummy=some x→t.place[SetTable.below t.place x]?≠some x)→SetTable.probe.go t f h n p=some (.empty j d)→t.place[SetTable.below t.place (d.getD j)]?≠some (d.getD j)
 | 0,p,j,d,hp,e=>by cases e
 | n+1,p,j,d,hp,e=>by
  unfold SetTable.probe.go at e
  have adv:∀ q:SetTable.Probe,(t.advance q).dummy=q.dummy:=fun q=>by
   unfold SetTable.advance
   split <;> rfl
  split at e
  ·rename_i hs
   cases e
   cases hd:p.dummy with
   | none=>exact zJX fun ⟨i,hi⟩=>by rw [show (none:Option Nat).getD p.j=p.j from rfl,hs] at hi; cases hi
   | some x=>exact hp x hd
  ·rename_i hs
   refine zJa n _ (fun x hx=>?_) e
   rw [adv] at hx
   cases hx
   exact zJX fun ⟨i,hi⟩=>by rw [hs] at hi; cases hi
  ·split at e
   ·cases e
   ·exact zJa n _ (fun x hx=>hp x (by rw [adv] at hx; exact hx)) e
theorem zJp {t:SetTable}{h:Int}{j:Nat}{b:Bool} (e:t.freeSlot h=some (j,b)):t.place[SetTable.below t.place j]?≠some j:=by
 unfold SetTable.freeSlot at e
 split at e
 ·rename_i j' d he
  cases e
  exact zJa _ _ (fun x hx=>by simp [SetTable.probeStart] at hx) he
 ·cases e
structure TOk (bt:Bool) (t:SetTable):Prop where
 led:t.led=!bt
 up:t.plain=true→Rs t.place
theorem TOk.fresh (bt:Bool):TOk bt (.fresh 0 0 (!bt)):=⟨rfl,fun _=>by simp [SetTable.fresh,Rs]⟩
theorem TOk.standIn {bt:Bool}{t:SetTable} (h:TOk bt t) (n:Nat):TOk bt (t.standIn n):=⟨h.led,fun e=>by cases e⟩
theorem TOk.layNew {bt:Bool}{t:SetTable} (k:TOk bt t) (es:Array (Int × Value)) (h:Int) (x:Value):TOk bt (layNew t es h x).2.1:=by
 unfold PySem.layNew
 split
 ·rename_i j b e
  show TOk bt (SetTable.orStandIn (t.put j).1 _)
  have k1:TOk bt (t.put j).1:=⟨k.led,fun p=>(k.up p).insert (zJp e)⟩
  unfold SetTable.orStandIn
  split
  ·exact k1
  ·exact k1.standIn _
 ·exact k.standIn _
theorem zUS {m f v:Nat}{l p:Bool}{hs:Array Int}{t:SetTable}{o:Array Nat} (e:SetTable.laid m f v l p hs=some (t,o)):t.led=l∧t.plain=p∧Rs t.place:=by
 unfold SetTable.laid at e
 obtain ⟨ow,_,e⟩:=qA3.mp e
 cases e
 refine ⟨rfl,rfl,?_⟩
 have e2:∀ ks:List Nat,(ks.filterMap fun j=>(ow.getD j none).map (j,·)).map (·.1)=ks.filter fun j=>(ow.getD j none).isSome:=by
  intro ks
  induction ks with
  | nil=>rfl
  | cons a ks ih =>
   cases h:ow.getD a none with
   | none=>rw [List.filterMap_cons_none (by rw [h]; rfl),List.filter_cons_of_neg (by rw [h]; exact qA7),ih]
   | some b=>rw [List.filterMap_cons_some (b:=(a,b)) (by rw [h]; rfl),List.filter_cons_of_pos (by rw [h]; rfl),qC5,ih]
 show List.Pairwise (·<·) (((List.range (m+1)).filterMap fun j=>(ow.getD j none).map (j,·)).map (·.1))
 rw [e2]
 exact List.Pairwise.filter _ qI3
theorem TOk.relayAll {bt:Bool}{t:SetTable} (k:TOk bt t) (es:Array (Int × Value)) (n:Nat):TOk bt (relayAll t es n).2.1:=by
 unfold PySem.relayAll
 split
 ·rename_i t' o e
  obtain ⟨h1,h2,h3⟩:=zUS e
  dsimp only
  split
  ·exact ⟨h1.trans k.led,fun _=>h3⟩
  ·exact k.standIn _
 ·exact k.standIn _
open PySem PySem.Spec PyProof.Rows
noncomputable def iV:Value→Int
 | .int z _=>z
 | _=>0
noncomputable def iE (e:Int × Value):Int:=iV e.2
def EI (es:List (Int × Value)):Prop:=∀ e∈es,∃ z tk,e=(hashInt z,Value.int z tk)
theorem EI.elems {prog:Program}{w:World}{es:List (Int × Value)} (h:EI es):ElemsOf (intKind prog w) es:=fun e he=>by
 obtain ⟨z,tk,rfl⟩:=h e he
 exact ⟨⟨z,intKind_is prog w z tk,rfl⟩,rfl⟩
theorem EI.perm {a b:List (Int × Value)} (h:EI a) (p:b.Perm a):EI b:=fun e he=>h e (p.mem_iff.mp he)
inductive StI (bt:Bool) (h:Heap) (a:Addr) (zs:List Int):Prop
 | mk (o:Obj) (es:Array (Int × Value)) (ep:Nat) (t:SetTable) (g:h.get? a=some o) (x:o.ExactSet) (d:o.data=.set es ep t) (k:TOk bt t) (f:t.fits es.size=true) (b:es.size<scanBound) (e:EI es.toList) (p:(es.toList.map iE).Perm zs)
theorem StI.at {bt:Bool}{h h':Heap}{a:Addr}{zs:List Int} (S:StI bt h a zs) (k:∀ o,h.get? a=some o→h'.get? a=some o):StI bt h' a zs:=by
 obtain ⟨o,es,ep,t,g,r⟩:=S
 exact ⟨o,es,ep,t,k o g,‹_›,‹_›,‹_›,‹_›,‹_›,‹_›,‹_›⟩
theorem StI.stored {bt:Bool}{h:Heap}{a:Addr}{o:Obj}{es es':Array (Int × Value)}{ep:Nat}{t t':SetTable}{zs:List Int} (g:h.get? a=some o) (x:o.ExactSet) (d:o.data=.set es ep t)
  (k:TOk bt t') (f:t'.fits es'.size=true) (b:es'.size<scanBound) (e:EI es'.toList) (p:(es'.toList.map iE).Perm zs) :
  (h.update a (Obj.putSet es' t')).get? a=some { o with data:=.set es' (ep+1) t' }∧StI bt (h.update a (Obj.putSet es' t')) a zs:=by
 have hg:(h.update a (Obj.putSet es' t')).get? a=some { o with data:=.set es' (ep+1) t' }:=by
  have:=qI9 (Obj.putSet es' t') g (by rw [putSet_of es' t' d]; rfl)
  rw [putSet_of es' t' d] at this
  exact this
 exact ⟨hg,_,es',ep+1,t',hg,x,rfl,k,f,b,e,p⟩
noncomputable def one (zs:List Int) (z:Int):List Int:=if z∈zs then zs else z::zs
section
variable {prog:Program}{w:World}{A:Around}{E:Value→Shared→Prop}{s:Shared}{bt:Bool}{a:Addr}{zs:List Int}
theorem add_int {z:Int}{tk:Tok}{Q:Bool→Shared→Prop} (S:StI bt s.heap a zs) (room:zs.length+1<scanBound)
  (h:∀ (b:Bool) (h':Heap),qE2 a s.heap h'→StI bt h' a (one zs z)→Q b { s with heap:=h' }) :
  wpAny (model prog w) A (setAddHashed a (.int z tk) (hashInt z)) Q E s:=by
 obtain ⟨o,es,ep,t,g,x,d,k,f,b,e,p⟩:=S
 have hl:es.size=zs.length:=by rw [← p.length_eq,qA2,Array.length_toList]
 unfold setAddHashed setAddHashedIn
 refine wpAny_holding (wpAny_bind (wpAny_setState_of g d f ?_))
 dsimp only
 rw [byScan_of (knd:=intKind prog w) rfl b e.elems,if_pos rfl]
 unfold setAddByScan
 refine wpAny_bind (wpAny_bind (wpAny_rule (wpAny_bind (wpAny_setScan_of (knd:=intKind prog w) (k:=z) (intKind_is prog w z tk) g d f e.elems ?_))))
 cases hr:es.toList.findIdx? (fun q=>(intKind prog w).is z q.2) with
 | some j =>
  obtain ⟨hj,hp,_⟩:=List.findIdx?_eq_some_iff_getElem.mp hr
  have hm:z∈zs:=by
   obtain ⟨z',tk',e1⟩:=e _ (qD1 hj)
   rw [e1] at hp
   have hz:z'=z:=by simpa [intKind,Value.isInt] using hp
   rw [← hz]
   refine p.mem_iff.mp (qA9.mpr ⟨_,qD1 hj,?_⟩)
   rw [e1]
   rfl
  refine wpAny_pure (wpAny_pure ?_)
  have:=h false s.heap (qE2.refl ..) ⟨o,es,ep,t,g,x,d,k,f,b,e,by rw [one,if_pos hm]; exact p⟩
  cases s
  exact this
 | none =>
  have hm:z∉zs:=fun hz=>by
   obtain ⟨q,hq,e2⟩:=qA9.mp (p.mem_iff.mpr hz)
   have:=List.findIdx?_eq_none_iff.mp hr q hq
   obtain ⟨z',tk',e1⟩:=e q hq
   rw [e1] at this e2
   have hz':z'=z:=e2
   subst hz'
   exact absurd (intKind_is prog w z' tk') (by rw [this]; exact qA7)
  have p1:=layNew_perm t es (hashInt z) (.int z tk)
  have f1:=layNew_fits t es (hashInt z) (.int z tk)
  have k1:=k.layNew es (hashInt z) (.int z tk)
  dsimp only
  generalize hL:layNew t es (hashInt z) (.int z tk)=L at p1 f1 k1 ⊢
  obtain ⟨es1,t1,wd,gv⟩:=L
  dsimp only at p1 f1 k1 ⊢
  have e1:EI es1.toList:=EI.perm (fun q hq=>by
   rw [Array.toList_push] at hq
   rcases qD2.mp hq with hq | hq
   ·exact e q hq
   ·exact ⟨z,tk,qE6.mp hq⟩) p1
  have q1:(es1.toList.map iE).Perm (one zs z):=by
   refine (p1.map iE).trans ?_
   rw [Array.toList_push,qE4,one,if_neg hm]
   exact (List.Perm.append_right _ p).trans (qM6 z zs)
  have z1:es1.size=es.size+1:=by rw [← Array.length_toList,p1.length_eq,Array.length_toList,Array.size_push]
  have b1:es1.size<scanBound:=by omega
  have tail:∀ (t2:SetTable) (G:Bool→Sem Unit) (hG:∀ (b:Bool) (s₁:Shared) (Q':Unit→Shared→Prop),Q' () s₁→wpAny (model prog w) A (G b) Q' E s₁),TOk bt t2→t2.fits es1.size=true →
    wpAny (model prog w) A (do
     storeSet a es1 t2
     if (!wd&&t2.tooFull)=true then do
       G (relayAll t2 es1 (SetTable.grown es1.size)).2.2
       storeSet a (relayAll t2 es1 (SetTable.grown es1.size)).1 (relayAll t2 es1 (SetTable.grown es1.size)).2.1
       pure (some true)
      else pure (some true)) (fun r s'=>wpAny (model prog w) A (match r with | some added=>pure added | none=>setAddHashedIn a (.int z tk) (hashInt z) 99999) Q E s') E s:=by
   intro t2 G hG k2 f2
   refine wpAny_bind (wpAny_storeSet_of g d ?_ (fits_of_scanBound b1))
   obtain ⟨g3,S3⟩:=StI.stored g x d k2 f2 b1 e1 q1
   split
   ·have p4:=relayAll_perm t2 es1 (SetTable.grown es1.size)
    have f4:=relayAll_fits t2 es1 (SetTable.grown es1.size)
    have k4:=k2.relayAll es1 (SetTable.grown es1.size)
    generalize relayAll t2 es1 (SetTable.grown es1.size)=M at p4 f4 k4 ⊢
    obtain ⟨es2,t3,gv2⟩:=M
    dsimp only at p4 f4 k4 ⊢
    have z4:es2.size=es1.size:=by rw [← Array.length_toList,p4.length_eq,Array.length_toList]
    have b4:es2.size<scanBound:=by omega
    refine wpAny_bind (hG _ _ _ (wpAny_bind (wpAny_storeSet_of g3 rfl ?_ (fits_of_scanBound b4))))
    refine wpAny_pure (wpAny_pure (h true _ ((qE2.update s.heap a _).trans (qE2.update _ a _)) ?_))
    exact (StI.stored g3 x rfl k4 f4 b4 (e1.perm p4) ((p4.map iE).trans q1)).2
   ·exact wpAny_pure (wpAny_pure (h true _ (qE2.update s.heap a _) S3))
  have hgw:∀ (b:Bool) (s₁:Shared) (Q':Unit→Shared→Prop),Q' () s₁→wpAny (model prog w) A (match b with | true=>rule "set.scan.the-table-gave-way" | false=>pure ()) Q' E s₁ :=
   fun b s₁ Q' hq=>by cases b <;> first | exact wpAny_pure hq | exact wpAny_rule hq
  refine wpAny_bind (hgw _ _ _ ?_)
  split
  ·refine wpAny_bind ?_
   rw [hashByValue_scannable 8 rfl]
   refine wpAny_pure ?_
   exact tail _ _ hgw k1 f1
  ·refine wpAny_bind (wpAny_pure ?_)
   exact tail _ _ hgw k1 f1
end
open PySem PySem.Spec PyProof.Rows
def IsSI (h:Heap) (it S:Addr) (f:Value) (i n ep:Nat):Prop:=∃ o,h.get? it=some o∧o.cls=.type "set_iterator"∧o.data=.fields #[f,.int (i:Int) 0,.ref S,.int (n:Int) 0,.int (ep:Int) 0]
section
variable {prog:Program}{w:World}{A:Around}{E:Value→Shared→Prop}{s:Shared}{it S:Addr}{f:Value}{i n ep:Nat}
theorem IsSI.ty (h:IsSI s.heap it S f i n ep):s.TypeIs (.ref it) "set_iterator":=let ⟨o,g,c,_⟩:=h; ⟨o,g,c⟩
theorem IsSI.at {h h':Heap} (x:IsSI h it S f i n ep) (e:∀ o,h.get? it=some o→h'.get? it=some o):IsSI h' it S f i n ep:=let ⟨o,g,r⟩:=x; ⟨o,e _ g,r⟩
end
open PySem PySem.Spec PyProof.Rows
section
variable {prog:Program}{w:World}{A:Around}{E:Value→Shared→Prop}{s:Shared}{S I T:Addr}{ep:Nat}{es:Array (Int × Value)}{t:SetTable}{o:Obj}{vs:List Value}
inductive SIt (prog:Program) (w:World) (A:Around) (h0:Heap) (S I:Addr) (h':Heap) (n:Nat) (vs:List Value):Prop
 | mk (fp:List Addr) (St:Nat→Heap→Prop) (vals:List Value) (p:vals.Perm vs) (W:Walks prog w A I fp [I] n (fun i v=>vals[i]?=some v) St) (st:St 0 h') (f:∀ b∈fp,b=S∨h0.objs.size≤b) (i:h0.objs.size≤I)
end
open PySem PySem.Spec PyProof.Rows
theorem Inv.dr {X:Cx}{pins:List (Addr × Obj)}{σ:St}{H:Hp}{s:Shared} (I:Inv X pins σ H s) (d:Drawn):Inv X pins σ H { s with drawn:=d } :=
 ⟨I.ok,I.os,I.bare,I.base,I.loc,I.cell,I.free,I.freeC,I.pin,I.hok,I.len⟩
section
variable {prog:Program}{w:World}{A:Around}{E:Value→Shared→Prop}{s:Shared}{r:Addr}
theorem zPd {Q:Value→Shared→Prop}{ns:List Int} (hl:ns.length<64)
  (hc:∀ (A:Around) (E:Value→Shared→Prop) (R:List Value→Shared→Prop),A.handled=none→(∀ (h':Heap) (tk:Nat) (dr:Drawn) (us:List Value) (ms:List Int),(∀ b o,s.heap.get? b=some o→h'.get? b=some o)→IntsAre us ms→ms.Perm ns→R us { s with heap:=h',toks:=tk,drawn:=dr })→wpAny (model prog w) A (collect (.ref r)) R E s)
  (hh:A.handled=none)
  (h:∀ (h1:Heap) (l:Addr) (h':Heap) (tk:Nat) (dr:Drawn) (e:Nat) (us:List Value) (ms:List Int),(∀ b o,s.heap.get? b=some o→h1.get? b=some o)→(∀ b o,h1.get? b=some o→h'.get? b=some o)→h1.objs.size≤l→h'.get? l=some (seqObj "list" us.toArray e)→IntsAre us ms→ms.Perm ns→ms.Pairwise (·≤·)→Q (.ref l) { s with heap:=h',toks:=tk,drawn:=dr }) :
  wpAny (model prog w) A (call (.builtin "sorted") [.ref r]) Q E s:=by
 refine Calls.call_function_entry kind_sorted plain_sorted entry_sorted (args_sorted1 _) ?_
 unfold Builtin.«sorted»
 refine wpAny_bind (m:=checkCount "sorted" 1 1 _) (wpAny_pure ?_)
 refine wpAny_bind (hc _ _ _ hh fun h' tk dr us ms hk hi hp=>?_)
 have hlen:us.length=ns.length:=by
  rw [← hp.length_eq]
  clear hk hp
  induction hi with
  | nil=>rfl
  | cons _ _ _ ih=>simp [ih]
 refine wpAny_bind (wpAny_newList ?_ (by rw [hlen,sizeLine_eq]; omega))
 have hoL:(h'.push (seqObj "list" us.toArray 0)).get? h'.objs.size=some (seqObj "list" us.toArray 0):=qB4 _ rfl
 show wpAny _ _ _ _ _ { s with heap:=h'.push (seqObj "list" us.toArray 0),toks:=tk,drawn:=dr }
 refine wpAny_bind (wpAny_holding (wpAny_call_entry slot_list_sort ⟨_,hoL,rfl⟩ entry_list_sort (list_sort_tree hoL hi (by omega) fun out ns' a1 a2 a3=>⟨_,rfl,?_⟩) (args_list_sort _)))
 obtain ⟨e,he⟩:=sortedHeap_at (out:=out) hoL
 refine wpAny_pure ⟨_,rfl,h h' h'.objs.size _ tk dr e out.toList ns' hk (fun b o g=>?_) (qB0 _) (by simpa using he) a1 (a2.trans hp) a3⟩
 have lt:b<h'.objs.size:=qB1 g
 rw [sortedHeap_old (qC3 lt) (by rw [size_push']; exact qG0 lt)]
 exact qA4 _ g
end
open PySem PySem.Spec PyProof.Rows
theorem zQg:∀ (us:List Value) (ns:List Int),us.length=ns.length→(∀ (j:Nat) (v:Value) (n:Int),us[j]?=some v→ns[j]?=some n→∃ t,v=.int n t)→IntsAre us ns
 | [],[],_,_=>.nil
 | [],_::_,h,_=>by cases h
 | _::_,[],h,_=>by cases h
 | u::us,n::ns,h,k=>by
  obtain ⟨t,rfl⟩:=k 0 u n rfl rfl
  exact .cons n t (zQg us ns (by simpa using h) fun j v m e1 e2=>k (j+1) v m (by simpa using e1) (by simpa using e2))
theorem zKV {X:Cx} (hc:X.calm=true):zCw X (.builtin "sorted") (fun vs H Q=>∃ (p:Addr) (kvs:List (Key × V)) (ns:List Int),vs=[.ref p]∧H p=some (.dK kvs)∧kvs.map (·.1)=ns.map Sum.inl∧ns.length<64∧∀ (l:Addr) (ms:List Int),H l=none→ms.Perm ns→ms.Pairwise (·≤·)→Q (.ref l) (upd H l (.lst (ms.map V.int)))):=by
 intro pins s σ H xs us Q I r h
 obtain ⟨p,kvs,ns,rfl,hp,hk,hn,q⟩:=h
 obtain ⟨u,rfl,ru⟩:=zF2 r
 cases ru
 obtain ⟨hz,lo,vs,kv,dd⟩:=zVb I.hok hp
 obtain ⟨ep,hat⟩:=dd.dictAt
 have hl:vs.length=ns.length:=by rw [← Paired.length kv,← qA2 (f:=(·.1)),hk,qA2]
 refine zPd hn (fun A E R hA hR=>W.kdu_collect (W.kdl_dict (knd:=zAS X.prog X.w) (kvs:=vs) (ep:=ep) lo) hA hat (by rw [hl,sizeLine_eq]; omega) fun h' tk acc hk2 hacc=>hR h' tk s.drawn _ ns hk2 ?_ (.refl _)) (I.ok.hd hc) fun h2 l2 h3 tk3 dr e us ms k2 k3 le g3 hi hpm hw=>?_
 ·refine zQg _ _ (by rw [Array.length_toList,hacc.1,hl]) fun j v n e1 e2=>?_
  obtain ⟨k,x,e3,e4⟩:∃ k x,vs[j]?=some (k,x)∧(zAS X.prog X.w).is k v=true:=hacc.2 j v (by rw [← Array.getElem?_toList]; exact e1)
  obtain ⟨q1,e5,e6,_⟩:=zIv kv e3
  have e7:(kvs.map (·.1))[j]?=some k:=by rw [qA6,e5]; exact congrArg some e6
  rw [hk,qA6,e2] at e7
  cases e7
  cases v <;> first | exact absurd e4 qA7 | skip
  rename_i i t
  have:i=n:=by simpa [zAS,zLK,Value.isInt] using e4
  subst this
  exact ⟨t,rfl⟩
 ·have I2:Inv X pins σ H { s with heap:=h2,toks:=tk3,drawn:=dr }:=(I.kept (t':=tk3) fun b o e=>k2 b o e).dr dr
  refine ⟨.ref l2,_,I2.laid (t':=tk3) (o:=.lst (ms.map V.int)) k3 le ?_,rfl,q _ _ (I2.hok.fresh le) hpm hw⟩
  have hl2:ms.length<64:=by rw [hpm.length_eq]; exact hn
  exact ⟨by rw [qA2]; exact qC6 (qH0 hl2) (by decide),us,e,zKu hi,by simpa [seqObj] using g3⟩
open PySem PySem.Spec PyProof.Rows
inductive D where
 | non | bl (b:Bool) | int (i:Int) | str (x:Str) | ty (n:String) | tup (xs:List D) | lst (n:Nat) | dct (n:Nat) | rol (xs:List D)
 | cd (ks:List (List Key)) (vs:List D)
inductive O where
 | lst (xs:List D) | dk (kvs:List (Key × D)) | dt (kvs:List (List Key × D))
noncomputable abbrev zA0:=List O
noncomputable abbrev Env1:=List (Option D)
def SqF (K:W.Frag) (H:Hp) (a:Addr) (xs:List V):Prop:=(∃ o,H a=some (.frz o (.lst xs))) ∨
  ∃ (o:Obj) (its:Array Value) (n:Nat),K.lookup a=some o∧o.cls=.type "list"∧o.dict=none∧o.data=.seq its n∧its.size≤sizeLine∧Vals xs its.toList
theorem SqF.sq {K:W.Frag}{H:Hp}{a:Addr}{xs:List V} (h:SqF K H a xs):SqL K H a xs:=by
 rcases h with ⟨o,h⟩ | h
 ·exact .inl (.inr ⟨o,h⟩)
 ·exact .inr h
structure TF (K:W.Frag) (H H':Hp):Prop where
 t:TK K H H'
 f:∀ a xs,SqF K H a xs→SqF K H' a xs
 u:∀ a xs,H a=some (.tup xs)→H' a=some (.tup xs)
 z:∀ a o u,H a=some (.frz o u)→H' a=some (.frz o u)
theorem TF.refl (K:W.Frag) (H:Hp):TF K H H:=⟨TK.refl K H,fun _ _ h=>h,fun _ _ h=>h,fun _ _ _ h=>h⟩
theorem TF.trans {K:W.Frag}{H H1 H2:Hp} (a:TF K H H1) (b:TF K H1 H2):TF K H H2:=⟨a.t.trans b.t,fun p xs h=>b.f p xs (a.f p xs h),fun p xs h=>b.u p xs (a.u p xs h),fun p o u h=>b.z p o u (a.z p o u h)⟩
theorem zZg {K:W.Frag}{H H':Hp}{p:Addr} (h:∀ q o,q≠p→H q=some o→H' q=some o) (nt:∀ xs,H p≠some (.tup xs)) (nf:∀ x y,H p≠some (.frz x y)):TF K H H':=by
 refine ⟨fun q ys e=>?_,fun q ys e=>?_,fun q ys e=>h _ _ (fun z=>nt _ (z▸e)) e,fun q o u e=>h _ _ (fun z=>nf _ _ (z▸e)) e⟩
 ·rcases e with (e | ⟨w,e⟩) | e
  ·exact .inl (.inl (h _ _ (fun z=>nt _ (z▸e)) e))
  ·exact .inl (.inr ⟨w,h _ _ (fun z=>nf _ _ (z▸e)) e⟩)
  ·exact .inr e
 ·rcases e with ⟨w,e⟩ | e
  ·exact .inl ⟨w,h _ _ (fun z=>nf _ _ (z▸e)) e⟩
  ·exact .inr e
theorem zME {K:W.Frag}{H:Hp}{p:Addr}{u o:HO} (e:H p=some u) (nt:∀ xs,u≠.tup xs) (nf:∀ x y,u≠.frz x y):TF K H (upd H p o) :=
 zZg (p:=p) (fun q v hq h=>by rw [zAi hq]; exact h) (fun xs h=>by rw [e] at h; exact nt xs (Option.some.inj h)) (fun x y h=>by rw [e] at h; exact nf x y (Option.some.inj h))
theorem zMF {K:W.Frag}{H:Hp}{p:Addr}{xs:List V}{o:HO} (e:H p=some (.lst xs)):TF K H (upd H p o):=zME e (fun _ z=>by cases z) (fun _ _ z=>by cases z)
theorem zP0 {K:W.Frag}{H H':Hp} (h:Same H H'):TF K H H':=⟨fun p xs e=>h.tup e,fun q ys e=>by
 rcases e with ⟨w,e⟩ | e
 ·exact .inl ⟨w,h _ _ e⟩
 ·exact .inr e,fun _ _ e=>h _ _ e,fun _ _ _ e=>h _ _ e⟩
mutual
noncomputable def RV (K:W.Frag) (H:Hp) (μ:List Addr):D→V→Prop
 | .non,v=>v=.non
 | .bl b,v=>v=.bl b
 | .int i,v=>v=.int i
 | .str x,v=>v=.str x
 | .ty n,v=>v=.ty n
 | .tup xs,v=>∃ p vs,v=.ref p∧H p=some (.tup vs)∧RVs K H μ xs vs
 | .lst n,v=>∃ a,v=.ref a∧μ[n]?=some a
 | .dct n,v=>∃ a,v=.ref a∧μ[n]?=some a
 | .rol xs,v=>∃ p vs,v=.ref p∧SqF K H p vs∧RVs K H μ xs vs
 | .cd ks vs,v=>∃ a o ws,v=.ref a∧H a=some (.frz o (.dT ws))∧ws.map (·.1)=ks∧RVs K H μ vs (ws.map (·.2))
noncomputable def RVs (K:W.Frag) (H:Hp) (μ:List Addr):List D→List V→Prop
 | [],vs=>vs=[]
 | d::ds,vs=>∃ v ws,vs=v::ws∧RV K H μ d v∧RVs K H μ ds ws
end
def RKs {κ:Type} (K:W.Frag) (H:Hp) (μ:List Addr) (kvs:List (κ × D)) (ws:List (κ × V)):Prop:=kvs.map (·.1)=ws.map (·.1)∧RVs K H μ (kvs.map (·.2)) (ws.map (·.2))
noncomputable def OR (K:W.Frag) (H:Hp) (μ:List Addr) (a:Addr):O→Prop
 | .lst xs=>∃ vs,H a=some (.lst vs)∧RVs K H μ xs vs
 | .dk kvs=>∃ ws,H a=some (.dK ws)∧RKs K H μ kvs ws
 | .dt kvs=>∃ ws,H a=some (.dT ws)∧RKs K H μ kvs ws
structure SR (K:W.Frag) (μ:List Addr) (S:zA0) (H:Hp):Prop where
 len:μ.length=S.length
 nd:μ.Nodup
 obj:∀ (n:Nat) (a:Addr) (o:O),μ[n]?=some a→S[n]?=some o→OR K H μ a o
structure Step (K:W.Frag) (μ μ':List Addr) (H H':Hp):Prop where
 pre:∃ ν,μ'=μ++ν∧∀ b∈ν,H b=none
 fr:∀ b o,b∉μ→H b=some o→H' b=some o
 tk:TF K H H'
section
variable {K:W.Frag}{H H' H1 H2:Hp}{μ μ' μ1 μ2:List Addr}{S S':zA0}
mutual
theorem RV.up (tk:TF K H H') (pre:∃ ν,μ'=μ++ν):∀ (d:D) (v:V),RV K H μ d v→RV K H' μ' d v
 | .non,v,h=>by simpa [RV] using h
 | .bl b,v,h=>by simpa [RV] using h
 | .int i,v,h=>by simpa [RV] using h
 | .str x,v,h=>by simpa [RV] using h
 | .ty n,v,h=>by simpa [RV] using h
 | .tup xs,v,h=>by
  unfold RV at h ⊢
  obtain ⟨p,vs,e,q,r⟩:=h
  exact ⟨p,vs,e,tk.u p vs q,RVs.up tk pre xs vs r⟩
 | .lst n,v,h=>by
  unfold RV at h ⊢
  obtain ⟨a,e,q⟩:=h
  obtain ⟨ν,rfl⟩:=pre
  exact ⟨a,e,by rw [qC1 (qA5.mp q).1]; exact q⟩
 | .dct n,v,h=>by
  unfold RV at h ⊢
  obtain ⟨a,e,q⟩:=h
  obtain ⟨ν,rfl⟩:=pre
  exact ⟨a,e,by rw [qC1 (qA5.mp q).1]; exact q⟩
 | .rol xs,v,h=>by
  unfold RV at h ⊢
  obtain ⟨p,vs,e,q,r⟩:=h
  exact ⟨p,vs,e,tk.f p vs q,RVs.up tk pre xs vs r⟩
 | .cd ks vs,v,h=>by
  unfold RV at h ⊢
  obtain ⟨a,o,ws,e,q,k,r⟩:=h
  exact ⟨a,o,ws,e,tk.z a o _ q,k,RVs.up tk pre vs _ r⟩
theorem RVs.up (tk:TF K H H') (pre:∃ ν,μ'=μ++ν):∀ (ds:List D) (vs:List V),RVs K H μ ds vs→RVs K H' μ' ds vs
 | [],vs,h=>by simpa [RVs] using h
 | d::ds,vs,h=>by
  unfold RVs at h ⊢
  obtain ⟨v,ws,e,r,q⟩:=h
  exact ⟨v,ws,e,RV.up tk pre d v r,RVs.up tk pre ds ws q⟩
end
theorem RVs.len:∀ {ds:List D}{vs:List V},RVs K H μ ds vs→ds.length=vs.length
 | [],vs,h=>by unfold RVs at h; subst h; rfl
 | d::ds,vs,h=>by
  unfold RVs at h
  obtain ⟨v,ws,rfl,_,q⟩:=h
  rw [qD0,qD0,RVs.len q]
theorem RVs.nil:RVs K H μ [] []:=by unfold RVs; rfl
theorem RVs.cons {d:D}{v:V}{ds:List D}{vs:List V} (h:RV K H μ d v) (t:RVs K H μ ds vs):RVs K H μ (d::ds) (v::vs):=by
 unfold RVs; exact ⟨v,vs,rfl,h,t⟩
theorem RVs.get:∀ {ds:List D}{vs:List V}{i:Nat}{d:D},RVs K H μ ds vs→ds[i]?=some d→∃ v,vs[i]?=some v∧RV K H μ d v
 | [],vs,i,d,h,e=>by simp at e
 | x::ds,vs,0,d,h,e=>by
  unfold RVs at h
  obtain ⟨v,ws,rfl,r,q⟩:=h
  simp at e; subst e
  exact ⟨v,rfl,r⟩
 | x::ds,vs,i+1,d,h,e=>by
  unfold RVs at h
  obtain ⟨v,ws,rfl,r,q⟩:=h
  obtain ⟨u,e1,e2⟩:=RVs.get (i:=i) (d:=d) q (by simpa using e)
  exact ⟨u,by simpa using e1,e2⟩
theorem RVs.append:∀ {ds es:List D}{vs us:List V},RVs K H μ ds vs→RVs K H μ es us→RVs K H μ (ds++es) (vs++us)
 | [],es,vs,us,h,g=>by unfold RVs at h; subst h; exact g
 | d::ds,es,vs,us,h,g=>by
  unfold RVs at h
  obtain ⟨v,ws,rfl,r,q⟩:=h
  exact .cons r (RVs.append q g)
theorem RVs.take:∀ {ds:List D}{vs:List V} (n:Nat),RVs K H μ ds vs→RVs K H μ (ds.take n) (vs.take n)
 | _,_,0,_=>by simp; exact .nil
 | [],vs,n+1,h=>by unfold RVs at h; subst h; exact .nil
 | d::ds,vs,n+1,h=>by
  unfold RVs at h
  obtain ⟨v,ws,rfl,r,q⟩:=h
  exact .cons r (RVs.take n q)
theorem RVs.drop:∀ {ds:List D}{vs:List V} (n:Nat),RVs K H μ ds vs→RVs K H μ (ds.drop n) (vs.drop n)
 | _,_,0,h=>by simpa using h
 | [],vs,n+1,h=>by unfold RVs at h; subst h; exact .nil
 | d::ds,vs,n+1,h=>by
  unfold RVs at h
  obtain ⟨v,ws,rfl,r,q⟩:=h
  exact RVs.drop n q
theorem RVs.set {d:D}{v:V} (g:RV K H μ d v):∀ {ds:List D}{vs:List V} (n:Nat),RVs K H μ ds vs→RVs K H μ (ds.set n d) (vs.set n v)
 | [],vs,n,h=>by unfold RVs at h; subst h; exact .nil
 | x::ds,vs,0,h=>by
  unfold RVs at h
  obtain ⟨u,ws,rfl,r,q⟩:=h
  exact .cons g q
 | x::ds,vs,n+1,h=>by
  unfold RVs at h
  obtain ⟨u,ws,rfl,r,q⟩:=h
  exact .cons r (RVs.set g n q)
theorem RVs.ints {ns:List Int}:RVs K H μ (ns.map D.int) (ns.map V.int):=by
 induction ns with
 | nil=>exact .nil
 | cons a r ih=>exact .cons (by unfold RV; rfl) ih
theorem RKs.up {κ:Type} (tk:TF K H H') (pre:∃ ν,μ'=μ++ν) {kvs:List (κ × D)}{ws:List (κ × V)} (h:RKs K H μ kvs ws):RKs K H' μ' kvs ws:=⟨h.1,RVs.up tk pre _ _ h.2⟩
theorem SR.isS (sr:SR K μ S H) {a:Addr} (h:a∈μ):∃ o,H a=some o:=by
 obtain ⟨n,hn⟩:=qL7 h
 have hl:n<S.length:=by rw [← sr.len]; exact (qA5.mp hn).1
 have q:=sr.obj n a S[n] hn (qA0 hl)
 revert q
 generalize S[n]=o
 intro q
 cases o with
 | lst xs=>obtain ⟨vs,e,_⟩:=q; exact ⟨_,e⟩
 | dk kvs=>obtain ⟨vs,e,_⟩:=q; exact ⟨_,e⟩
 | dt kvs=>obtain ⟨vs,e,_⟩:=q; exact ⟨_,e⟩
theorem SR.out (sr:SR K μ S H) {a:Addr} (h:H a=none):a∉μ:=fun m=>by
 obtain ⟨o,e⟩:=sr.isS m
 rw [h] at e
 cases e
theorem Step.refl (K:W.Frag) (μ:List Addr) (H:Hp):Step K μ μ H H:=⟨⟨[],by simp,by simp⟩,fun _ _ _ h=>h,TF.refl K H⟩
theorem Step.mem (st:Step K μ μ' H H') {a:Addr} (h:a∈μ):a∈μ':=by
 obtain ⟨ν,rfl,_⟩:=st.pre
 exact qH1 _ h
theorem Step.ext (st:Step K μ μ' H H'):∃ ν,μ'=μ++ν:=let ⟨ν,e,_⟩:=st.pre; ⟨ν,e⟩
theorem Step.trans (a:Step K μ μ1 H H1) (b:Step K μ1 μ2 H1 H2) (nd:μ2.Nodup):Step K μ μ2 H H2:=by
 obtain ⟨ν,e,n1⟩:=a.pre
 obtain ⟨ν',e',n2⟩:=b.pre
 have nd':(μ++ν++ν').Nodup:=by rw [← e,← e']; exact nd
 refine ⟨⟨ν++ν',by rw [e',e,qH4],fun c hc=>?_⟩,fun c o hc h=>?_,a.tk.trans b.tk⟩
 ·rcases qD2.mp hc with h | h
  ·exact n1 c h
  ·have hn:=n2 c h
   cases q:H c with
   | none=>rfl
   | some o =>
    have:c∉μ:=fun hm=>by
     have:=(qH6.mp nd').2.2 c (qH1 _ hm) c h
     exact this rfl
    rw [a.fr c o this q] at hn
    cases hn
 ·refine b.fr c o (fun hm=>?_) (a.fr c o hc h)
  rw [e] at hm
  rcases qD2.mp hm with h' | h'
  ·exact hc h'
  ·rw [n1 c h'] at h; cases h
theorem OR.up (tk:TF K H H') (pre:∃ ν,μ'=μ++ν) {a:Addr} (e:H' a=H a):∀ {o:O},OR K H μ a o→OR K H' μ' a o
 | .lst xs,⟨vs,h,r⟩=>⟨vs,by rw [e]; exact h,RVs.up tk pre _ _ r⟩
 | .dk kvs,⟨ws,h,r⟩=>⟨ws,by rw [e]; exact h,r.up tk pre⟩
 | .dt kvs,⟨ws,h,r⟩=>⟨ws,by rw [e]; exact h,r.up tk pre⟩
theorem zJP {p:Addr}{o:HO} (h:H p=none):TF K H (upd H p o):=zP0 (zJ6 h o)
theorem SR.other (sr:SR K μ S H) {p:Addr}{o:HO} (h:H p=none):SR K μ S (upd H p o)∧Step K μ μ H (upd H p o):=by
 have hp:=sr.out h
 refine ⟨⟨sr.len,sr.nd,fun n a o' e1 e2=>?_⟩,⟨⟨[],by simp,by simp⟩,fun b u hb e=>?_,zJP h⟩⟩
 ·have hm:a∈μ:=qB9 e1
  have ne:a≠p:=fun z=>hp (z▸hm)
  exact (sr.obj n a o' e1 e2).up (zJP h) ⟨[],by simp⟩ (zAi ne)
 ·rw [zAi (zBc e h)]; exact e
theorem SR.push (sr:SR K μ S H) {p:Addr}{o:HO}{o':O} (h:H p=none) (ho:OR K (upd H p o) (μ++[p]) p o'):SR K (μ++[p]) (S++[o']) (upd H p o)∧Step K μ (μ++[p]) H (upd H p o):=by
 have hp:=sr.out h
 refine ⟨⟨by simp [sr.len],?_,fun n a u e1 e2=>?_⟩,⟨⟨[p],rfl,fun b hb=>?_⟩,fun b u hb e=>?_,zJP h⟩⟩
 ·rw [qH6]
  refine ⟨sr.nd,by simp,fun a ha b hb=>?_⟩
  simp at hb; subst hb
  exact fun z=>hp (z▸ha)
 ·by_cases hn:n<μ.length
  ·rw [qC1 hn] at e1
   rw [qC1 (by rw [← sr.len]; exact hn)] at e2
   have hm:a∈μ:=qB9 e1
   have ne:a≠p:=fun z=>hp (z▸hm)
   exact (sr.obj n a u e1 e2).up (zJP h) ⟨[p],rfl⟩ (zAi ne)
  ·rw [qB6 (by omega)] at e1
   rw [qB6 (by rw [← sr.len]; omega)] at e2
   have h1:n - μ.length=0:=by
    have:=(qA5.mp e1).1
    simp at this; omega
   rw [h1] at e1
   rw [← sr.len,h1] at e2
   simp at e1 e2
   subst e1 e2
   exact ho
 ·simp at hb; subst hb; exact h
 ·rw [zAi (zBc e h)]; exact e
theorem SR.put (sr:SR K μ S H) {n:Nat}{p:Addr}{o u:HO}{o':O} (hn:μ[n]?=some p) (hp:H p=some u) (nt:∀ xs,u≠.tup xs) (nf:∀ x y,u≠.frz x y) (ho:OR K (upd H p o) μ p o'):SR K μ (S.set n o') (upd H p o)∧Step K μ μ H (upd H p o):=by
 have tk:TF K H (upd H p o):=zME hp nt nf
 have hmem:p∈μ:=qB9 hn
 refine ⟨⟨by simp [sr.len],sr.nd,fun m a w e1 e2=>?_⟩,⟨⟨[],by simp,by simp⟩,fun b w hb e=>?_,tk⟩⟩
 ·by_cases hm:m=n
  ·subst hm
   rw [hn] at e1; cases e1
   have hl:m<S.length:=by rw [← sr.len]; exact (qA5.mp hn).1
   rw [qD4 hl] at e2
   cases e2
   exact ho
  ·rw [qD7 (fun z=>hm z.symm)] at e2
   have ne:a≠p:=fun z=>by
    subst z
    exact hm ((List.getElem?_inj (qA5.mp e1).1 sr.nd).mp (e1.trans hn.symm))
   exact (sr.obj m a w e1 e2).up tk ⟨[],by simp⟩ (zAi ne)
 ·have ne:b≠p:=fun z=>hb (z▸hmem)
  rw [zAi ne]; exact e
end
open PySem PySem.Spec PyProof.Rows
inductive R (α:Type) where
 | bad | ok (a:α) (S:zA0) | er (c:Str) (S:zA0)
noncomputable abbrev M (α:Type):=zA0→R α
noncomputable def bnd {α β:Type} (m:M α) (f:α→M β):M β:=fun S=>match m S with
 | .bad=>.bad
 | .er c S'=>.er c S'
 | .ok a S'=>f a S'
noncomputable def ret {α:Type} (a:α):M α:=fun S=>.ok a S
noncomputable def bad {α:Type}:M α:=fun _=>.bad
inductive zb6 {α β:Type} (m:M α) (f:α→M β) (S:zA0) (b:β) (S2:zA0):Prop
 | mk (a:α) (S1:zA0) (e:m S=.ok a S1) (g:f a S1=.ok b S2)
theorem zAb {α β:Type}{m:M α}{f:α→M β}{S S2:zA0}{b:β} (h:bnd m f S=.ok b S2):zb6 m f S b S2:=by
 unfold bnd at h
 cases e:m S with
 | bad=>rw [e] at h; cases h
 | er c S'=>rw [e] at h; cases h
 | ok a S'=>rw [e] at h; exact ⟨a,S',e,h⟩
theorem zAR {α:Type}{a b:α}{S S':zA0} (h:ret a S=.ok b S'):b=a∧S'=S:=by
 unfold ret at h; cases h; exact ⟨rfl,rfl⟩
noncomputable abbrev C:=Env1→M D
noncomputable abbrev CT:=Env1→M Bool
noncomputable abbrev CA:=Env1→M (List D)
def RE (K:W.Frag) (H:Hp) (μ:List Addr) (ρ:Env1) (σ:St):Prop:=ρ.length=σ.length∧∀ (i:Nat) (d:D),ρ[i]?=some (some d)→∃ v,σ[i]?=some (some v)∧RV K H μ d v
section
variable {K:W.Frag}{H H':Hp}{μ μ':List Addr}{ρ:Env1}{σ:St}
theorem RE.up (h:RE K H μ ρ σ) (st:Step K μ μ' H H'):RE K H' μ' ρ σ:=⟨h.1,fun i d e=>let ⟨v,q,r⟩:=h.2 i d e; ⟨v,q,RV.up st.tk st.ext d v r⟩⟩
theorem RE.set (h:RE K H μ ρ σ) {d:D}{v:V} (r:RV K H μ d v) (i:Nat):RE K H μ (ρ.set i (some d)) (σ.set i (some v)):=by
 refine ⟨by simp [h.1],fun j d' e=>?_⟩
 by_cases hj:i=j
 ·subst hj
  have hl:i<ρ.length:=by
   have:=(qA5.mp e).1
   simpa using this
  rw [qD4 hl] at e
  cases e
  exact ⟨v,by rw [qD4 (by rw [← h.1]; exact hl)],r⟩
 ·rw [qD7 hj] at e ⊢
  exact h.2 j d' e
end
def Yld (K:W.Frag) (μ:List Addr) (H:Hp) (d:D) (S':zA0) (Q:VK):Prop:=∀ v H' μ',SR K μ' S' H'→Step K μ μ' H H'→RV K H' μ' d v→Q v H'
def YldA (K:W.Frag) (μ:List Addr) (H:Hp) (ds:List D) (S':zA0) (Q:List V→Hp→Prop):Prop:=∀ vs H' μ',SR K μ' S' H'→Step K μ μ' H H'→RVs K H' μ' ds vs→Q vs H'
def YldT (K:W.Frag) (μ:List Addr) (H:Hp) (b:Bool) (S':zA0) (Q:Bool→Hp→Prop):Prop:=∀ H' μ',SR K μ' S' H'→Step K μ μ' H H'→Q b H'
inductive tOf (K:W.Frag) (c:C) (σ:St) (H:Hp) (Q:VK):Prop
 | mk (μ:List Addr) (ρ:Env1) (S:zA0) (d:D) (S':zA0) (sr:SR K μ S H) (re:RE K H μ ρ σ) (e:c ρ S=.ok d S') (y:Yld K μ H d S' Q)
inductive tOfA (K:W.Frag) (c:CA) (σ:St) (H:Hp) (Q:List V→Hp→Prop):Prop
 | mk (μ:List Addr) (ρ:Env1) (S:zA0) (d:List D) (S':zA0) (sr:SR K μ S H) (re:RE K H μ ρ σ) (e:c ρ S=.ok d S') (y:YldA K μ H d S' Q)
inductive tOfT (K:W.Frag) (c:CT) (σ:St) (H:Hp) (Q:Bool→Hp→Prop):Prop
 | mk (μ:List Addr) (ρ:Env1) (S:zA0) (d:Bool) (S':zA0) (sr:SR K μ S H) (re:RE K H μ ρ σ) (e:c ρ S=.ok d S') (y:YldT K μ H d S' Q)
theorem Yld.self {K:W.Frag}{μ:List Addr}{H:Hp}{d:D}{S:zA0}{Q:VK} (h:Yld K μ H d S Q) (sr:SR K μ S H) {v:V} (r:RV K H μ d v):Q v H:=h v H μ sr (Step.refl K μ H) r
theorem Yld.shift {K:W.Frag}{μ μ1:List Addr}{H H1:Hp}{d:D}{S:zA0}{Q:VK} (h:Yld K μ H d S Q) (st:Step K μ μ1 H H1):Yld K μ1 H1 d S Q:=fun v H' μ' sr s2 r=>h v H' μ' sr (st.trans s2 sr.nd) r
theorem YldT.shift {K:W.Frag}{μ μ1:List Addr}{H H1:Hp}{d:Bool}{S:zA0}{Q:Bool→Hp→Prop} (h:YldT K μ H d S Q) (st:Step K μ μ1 H H1):YldT K μ1 H1 d S Q:=fun H' μ' sr s2=>h H' μ' sr (st.trans s2 sr.nd)
theorem PE.weak {X:Cx}{e:Expr}{t t':TE} (h:PE X e t) (w:∀ σ H Q,t' σ H Q→t σ H Q):PE X e t':=fun pins s σ H Q I q=>h pins s σ H Q I (w σ H Q q)
theorem PT.weak {X:Cx}{e:Expr}{t t':TT} (h:PT X e t) (w:∀ σ H Q,t' σ H Q→t σ H Q):PT X e t':=fun pins s σ H Q I q=>h pins s σ H Q I (w σ H Q q)
theorem PW.weak {X:Cx}{e:Expr}{t t':TT} (h:PW X e t) (w:∀ σ H Q,t' σ H Q→t σ H Q):PW X e t':=fun wh pins s σ H Q I q=>h wh pins s σ H Q I (w σ H Q q)
theorem PA.weak {X:Cx}{e:List Expr}{t t':TA} (h:PA X e t) (w:∀ σ H Q,t' σ H Q→t σ H Q):PA X e t':=fun pos pins s σ H Q I q=>h pos pins s σ H Q I (w σ H Q q)
theorem PS.weak {X:Cx}{e:Stmt}{t t':TS} (h:PS X e t) (w:∀ D σ H,t' D σ H→t D σ H):PS X e t':=fun pins s σ H D I q=>h pins s σ H D I (w D σ H q)
theorem PSs.weak {X:Cx}{e:List Stmt}{t t':TS} (h:PSs X e t) (w:∀ D σ H,t' D σ H→t D σ H):PSs X e t':=fun pins s σ H D I q=>h pins s σ H D I (w D σ H q)
noncomputable def rAny (X:Cx) (f:Value→Value→Sem Value):R2:=fun v u H Q=>∃ r,OpR X f r∧r v u H Q
theorem zLz {X:Cx}{f:Value→Value→Sem Value}:OpR X f (rAny X f):=fun pins s σ H x y v u Q I rx ry ⟨r,ho,q⟩=>ho pins s σ H x y v u Q I rx ry q
noncomputable def uAny (X:Cx) (f:Value→Sem Value):V→Hp→VK→Prop:=fun v H Q=>∃ r,UnR X f r∧r v H Q
theorem zZd {X:Cx}{f:Value→Sem Value}:UnR X f (uAny X f):=fun pins s σ H x v Q I rx ⟨r,ho,q⟩=>ho pins s σ H x v Q I rx q
noncomputable def cAny (X:Cx) (f:Value):List V→Hp→VK→Prop:=fun vs H Q=>∃ r,zCw X f r∧r vs H Q
theorem zJw {X:Cx}{f:Value}:zCw X f (cAny X f):=fun pins s σ H x v Q I rx ⟨r,ho,q⟩=>ho pins s σ H x v Q I rx q
noncomputable def zQa (X:Cx):R2:=fun v u H Q=>∃ r,IxR X r∧r v u H Q
theorem zaA {X:Cx}:IxR X (zQa X):=fun va sl pins s σ H x y v u Q I rx ry ⟨r,ho,q⟩ hs=>ho va sl pins s σ H x y v u Q I rx ry q hs
noncomputable def zPe (X:Cx):V→Option Int→Option Int→Hp→VK→Prop:=fun v lo hi H Q=>∃ r,SlR X r∧r v lo hi H Q
theorem zZs {X:Cx}:SlR X (zPe X):=fun pins s σ H x v vl vu lo hi sl Q I rx a b c ⟨r,ho,q⟩=>ho pins s σ H x v vl vu lo hi sl Q I rx a b c q
noncomputable def zH9 (X:Cx) (id:String):V→List V→Hp→VK→Prop:=fun v vs H Q=>∃ r,MtR X id r∧r v vs H Q
theorem zau {X:Cx}{id:String}:MtR X id (zH9 X id):=fun pins s σ H x xs v us Q I rx rs ⟨r,ho,q⟩=>ho pins s σ H x xs v us Q I rx rs q
noncomputable def zPh (X:Cx):TSet:=fun o i v H Q=>∃ r,PSet X r∧r o i v H Q
theorem zWn {X:Cx}:PSet X (zPh X):=fun pins s σ H o i v ov iv u Q I r1 r2 r3 ⟨r,ho,q⟩=>ho pins s σ H o i v ov iv u Q I r1 r2 r3 q
noncomputable def cVar (i:Nat):C:=fun ρ S=>match ρ[i]? with
 | some (some d)=>.ok d S
 | _=>.bad
noncomputable def cCon (d:D):C:=fun _ S=>.ok d S
noncomputable def cBin (o:D→D→M D) (a b:C):C:=fun ρ=>bnd (a ρ) fun x=>bnd (b ρ) fun y=>o x y
noncomputable def cUn (o:D→M D) (a:C):C:=fun ρ=>bnd (a ρ) o
noncomputable def zA1:List C→CA
 | []=>fun _=>ret []
 | c::cs=>fun ρ=>bnd (c ρ) fun x=>bnd (zA1 cs ρ) fun xs=>ret (x::xs)
noncomputable def cApp (o:List D→M D) (a:CA):C:=fun ρ=>bnd (a ρ) o
noncomputable def cTup (a:CA):C:=cApp (fun xs=>ret (.tup xs)) a
noncomputable def cLst (a:CA):C:=cApp (fun xs S=>.ok (.lst S.length) (S++[.lst xs])) a
noncomputable def cIf (t:CT) (a b:C):C:=fun ρ=>bnd (t ρ) fun k=>if k then a ρ else b ρ
noncomputable def zAB (a:C):CT:=fun ρ=>bnd (a ρ) fun x=>match x with
 | .bl b=>ret b
 | _=>bad
noncomputable def zOt (a b:C):C:=fun ρ=>bnd (zAB a ρ) fun k=>if k then b ρ else ret (.bl false)
noncomputable def cOrV (a b:C):C:=fun ρ=>bnd (zAB a ρ) fun k=>if k then ret (.bl true) else b ρ
noncomputable def zSL (a:C):C:=fun ρ=>bnd (zAB a ρ) fun k=>ret (.bl (!k))
noncomputable def zMl (a b:CT):CT:=fun ρ=>bnd (a ρ) fun k=>if k then b ρ else ret false
noncomputable def cOrT (a b:CT):CT:=fun ρ=>bnd (a ρ) fun k=>if k then ret true else b ρ
noncomputable def zG0 (a:CT):CT:=fun ρ=>bnd (a ρ) fun k=>ret (!k)
noncomputable def dB (x:D):M Bool:=match x with
 | .bl b=>ret b
 | _=>bad
noncomputable def zFq (o o':D→D→M D) (a b c:C):C:=fun ρ=>bnd (a ρ) fun x=>bnd (b ρ) fun y=>bnd (o x y) fun z=>bnd (dB z) fun k=>if k then bnd (c ρ) fun w=>o' y w else ret (.bl false)
section
variable {X:Cx}{a b c d:Expr}{ca cb cc cd:C}{pos:Pos}
theorem zWo {i:Nat}{x:Str} (h:PE X (.Name x pos) (tVar i)):PE X (.Name x pos) (tOf X.K (cVar i)):=h.weak fun σ H Q ⟨μ,ρ,S,d,S',sr,re,e,y⟩=>by
 unfold cVar at e
 split at e
 ·rename_i d' hd
  cases e
  obtain ⟨v,q,r⟩:=re.2 i _ hd
  exact ⟨v,q,y.self sr r⟩
 ·cases e
theorem zK0 {e:Expr}{v:V}{d:D} (h:PE X e (tC v)) (hd:∀ K H μ,RV K H μ d v):PE X e (tOf X.K (cCon d)):=h.weak fun σ H Q ⟨μ,ρ,S,d',S',sr,re,e,y⟩=>by
 unfold cCon at e
 cases e
 exact y.self sr (hd _ _ _)
def OpS (K:W.Frag) (r:R2) (o:D→D→M D):Prop:=∀ x y S d S' H μ v u Q,o x y S=.ok d S'→SR K μ S H→RV K H μ x v→RV K H μ y u→Yld K μ H d S' Q→r v u H Q
theorem zMU {r:R2}{o:D→D→M D} (ho:OpS X.K r o):∀ σ H Q,tOf X.K (cBin o ca cb) σ H Q→tOp r (tOf X.K ca) (tOf X.K cb) σ H Q:=by
 rintro σ H Q ⟨μ,ρ,S,d,S',sr,re,e,y⟩
 obtain ⟨x,S1,e1,e⟩:=zAb e
 obtain ⟨z,S2,e2,e⟩:=zAb e
 refine ⟨μ,ρ,S,x,S1,sr,re,e1,fun v H1 μ1 sr1 st1 r1=>⟨μ1,ρ,S1,z,S2,sr1,re.up st1,e2,fun u H2 μ2 sr2 st2 r2=>?_⟩⟩
 exact ho x z S2 d S' H2 μ2 v u Q e sr2 (RV.up st2.tk st2.ext _ _ r1) r2 (y.shift (st1.trans st2 sr2.nd))
theorem zWt {op:Operator}{o:D→D→M D} (ho:OpS X.K (rAny X (binaryOp op)) o) (ha:PE X a (tOf X.K ca)) (hb:PE X b (tOf X.K cb)):PE X (.BinOp a op b pos) (tOf X.K (cBin o ca cb)):=(zZW zLz ha hb).weak (zMU ho)
theorem zWs {op:CmpOp}{o:D→D→M D} (ho:OpS X.K (rAny X (compareOp op)) o) (ha:PE X a (tOf X.K ca)) (hb:PE X b (tOf X.K cb)) (hm:behindInMarks op b=false):PE X (.Compare a [op] [b] pos) (tOf X.K (cBin o ca cb)):=(zUw zLz ha hb hm).weak (zMU ho)
theorem zPI {t:TE}{c:C} (h:∀ σ H Q,tOf X.K c σ H Q→t σ H Q):∀ σ H Q,tOfT X.K (zAB c) σ H Q→zTD t σ H Q:=by
 rintro σ H Q ⟨μ,ρ,S,d,S',sr,re,e,y⟩
 obtain ⟨x,S1,e1,e⟩:=zAb e
 refine h σ H _ ⟨μ,ρ,S,x,S1,sr,re,e1,fun v H1 μ1 sr1 st1 r1=>?_⟩
 cases x with
 | bl k =>
  obtain ⟨rfl,rfl⟩:=zAR e
  unfold RV at r1
  exact ⟨_,r1,y H1 μ1 sr1 st1⟩
 | _=>cases e
theorem zW9 {op:CmpOp}{o:D→D→M D} (ho:OpS X.K (rAny X (compareOp op)) o) (ha:PE X a (tOf X.K ca)) (hb:PE X b (tOf X.K cb)) (hm:behindInMarks op b=false):PT X (.Compare a [op] [b] pos) (tOfT X.K (zAB (cBin o ca cb))):=(zUd zLz ha hb hm).weak (zPI (zMU ho))
theorem zMT {r r':R2}{o o':D→D→M D} (ho:OpS X.K r o) (ho':OpS X.K r' o'):∀ σ H Q,tOf X.K (zFq o o' ca cb cc) σ H Q→zP5 r r' (tOf X.K ca) (tOf X.K cb) (tOf X.K cc) σ H Q:=by
 rintro σ H Q ⟨μ,ρ,S,d,S',sr,re,e,y⟩
 obtain ⟨x,S1,e1,f1⟩:=zAb e
 obtain ⟨z,S2,e2,f2⟩:=zAb f1
 obtain ⟨t,S3,e3,f3⟩:=zAb f2
 obtain ⟨k,S4,e4,f4⟩:=zAb f3
 refine ⟨μ,ρ,S,x,S1,sr,re,e1,fun v H1 μ1 sr1 st1 r1=>⟨μ1,ρ,S1,z,S2,sr1,re.up st1,e2,fun u H2 μ2 sr2 st2 r2=>?_⟩⟩
 have st12:=st1.trans st2 sr2.nd
 refine ho x z S2 t S3 H2 μ2 v u _ e3 sr2 (RV.up st2.tk st2.ext _ _ r1) r2 fun v3 H3 μ3 sr3 st3 r3=>?_
 have st13:=st12.trans st3 sr3.nd
 cases t with
 | bl k' =>
  obtain ⟨rfl,rfl⟩:=zAR e4
  unfold RV at r3
  refine ⟨_,r3,?_⟩
  cases k with
  | true =>
   rw [if_pos rfl] at f4 ⊢
   obtain ⟨w,S5,e5,f5⟩:=zAb f4
   refine ⟨μ3,ρ,_,w,S5,sr3,re.up st13,e5,fun v5 H5 μ5 sr5 st5 r5=>?_⟩
   exact ho' z w S5 d S' H5 μ5 u v5 Q f5 sr5 (RV.up st5.tk st5.ext _ _ (RV.up st3.tk st3.ext _ _ r2)) r5 (y.shift (st13.trans st5 sr5.nd))
  | false =>
   rw [if_neg qA7] at f4 ⊢
   obtain ⟨rfl,rfl⟩:=zAR f4
   exact y _ H3 μ3 sr3 st13 (by unfold RV; rfl)
 | _=>cases e4
theorem zRF {op op':CmpOp}{o o':D→D→M D} (ho:OpS X.K (rAny X (compareOp op)) o) (ho':OpS X.K (rAny X (compareOp op')) o') (ha:PE X a (tOf X.K ca)) (hb:PE X b (tOf X.K cb)) (hc:PE X c (tOf X.K cc)) (hm:lastMarks [op,op'] [b,c]=false) :
  PE X (.Compare a [op,op'] [b,c] pos) (tOf X.K (zFq o o' ca cb cc)):=(zRZ zLz zLz ha hb hc hm).weak (zMT ho ho')
theorem zRv {op op':CmpOp}{o o':D→D→M D} (ho:OpS X.K (rAny X (compareOp op)) o) (ho':OpS X.K (rAny X (compareOp op')) o') (ha:PE X a (tOf X.K ca)) (hb:PE X b (tOf X.K cb)) (hc:PE X c (tOf X.K cc)) (hm:lastMarks [op,op'] [b,c]=false) :
  PT X (.Compare a [op,op'] [b,c] pos) (tOfT X.K (zAB (zFq o o' ca cb cc))):=(zRO zLz zLz ha hb hc hm).weak (zPI (zMT ho ho'))
def UnS (K:W.Frag) (r:V→Hp→VK→Prop) (o:D→M D):Prop:=∀ x S d S' H μ v Q,o x S=.ok d S'→SR K μ S H→RV K H μ x v→Yld K μ H d S' Q→r v H Q
theorem zZt {op:UnaryOp}{o:D→M D} (ho:UnS X.K (uAny X (unaryOp op)) o) (ha:PE X a (tOf X.K ca)):PE X (.UnaryOp op a pos) (tOf X.K (cUn o ca)):=(zZU zZd ha).weak (by
 rintro σ H Q ⟨μ,ρ,S,d,S',sr,re,e,y⟩
 obtain ⟨x,S1,e1,e⟩:=zAb e
 exact ⟨μ,ρ,S,x,S1,sr,re,e1,fun v H1 μ1 sr1 st1 r1=>ho x S1 d S' H1 μ1 v Q e sr1 r1 (y.shift st1)⟩)
theorem zLA {σ:St}{H:Hp}{μ:List Addr}{ρ:Env1}{S S':zA0}{k:Bool} (sr:SR X.K μ S H) (re:RE X.K H μ ρ σ) (e:zAB ca ρ S=.ok k S') {Q:VK} (h:∀ H1 μ1,SR X.K μ1 S' H1→Step X.K μ μ1 H H1→Q (.bl k) H1):tOf X.K ca σ H Q:=by
 obtain ⟨x,S1,e1,e⟩:=zAb e
 refine ⟨μ,ρ,S,x,S1,sr,re,e1,fun v H1 μ1 sr1 st1 r1=>?_⟩
 cases x with
 | bl k' =>
  obtain ⟨rfl,rfl⟩:=zAR e
  unfold RV at r1
  subst r1
  exact h H1 μ1 sr1 st1
 | _=>cases e
theorem zWu {rest:List Expr} (ha:PE X a (tOf X.K ca)) (hb:PE X (.BoolOp .And (b::rest) pos) (tOf X.K cb)):PE X (.BoolOp .And (a::b::rest) pos) (tOf X.K (zOt ca cb)):=(zWZ ha hb).weak (by
 rintro σ H Q ⟨μ,ρ,S,d,S',sr,re,e,y⟩
 obtain ⟨k,S1,e1,e⟩:=zAb e
 refine zLA sr re e1 fun H1 μ1 sr1 st1=>⟨k,rfl,?_⟩
 cases k with
 | true=>rw [if_pos rfl] at e ⊢; exact ⟨μ1,ρ,S1,d,S',sr1,re.up st1,e,y.shift st1⟩
 | false=>rw [if_neg qA7] at e ⊢; obtain ⟨rfl,rfl⟩:=zAR e; exact y _ H1 μ1 sr1 st1 (by unfold RV; rfl))
theorem zZu {rest:List Expr} (ha:PE X a (tOf X.K ca)) (hb:PE X (.BoolOp .Or (b::rest) pos) (tOf X.K cb)):PE X (.BoolOp .Or (a::b::rest) pos) (tOf X.K (cOrV ca cb)):=(zZV ha hb).weak (by
 rintro σ H Q ⟨μ,ρ,S,d,S',sr,re,e,y⟩
 obtain ⟨k,S1,e1,e⟩:=zAb e
 refine zLA sr re e1 fun H1 μ1 sr1 st1=>⟨k,rfl,?_⟩
 cases k with
 | false=>rw [if_neg qA7] at e ⊢; exact ⟨μ1,ρ,S1,d,S',sr1,re.up st1,e,y.shift st1⟩
 | true=>rw [if_pos rfl] at e ⊢; obtain ⟨rfl,rfl⟩:=zAR e; exact y _ H1 μ1 sr1 st1 (by unfold RV; rfl))
theorem zWq (ha:PE X a (tOf X.K ca)):PE X (.UnaryOp .Not a pos) (tOf X.K (zSL ca)):=(zWV ha).weak (by
 rintro σ H Q ⟨μ,ρ,S,d,S',sr,re,e,y⟩
 obtain ⟨k,S1,e1,e⟩:=zAb e
 obtain ⟨rfl,rfl⟩:=zAR e
 exact zLA sr re e1 fun H1 μ1 sr1 st1=>⟨k,rfl,y _ H1 μ1 sr1 st1 (by unfold RV; rfl)⟩)
theorem zRE {t:Expr}{ct:CT} (ht:PT X t (tOfT X.K ct)) (ha:PE X a (tOf X.K ca)) (hb:PE X b (tOf X.K cb)):PE X (.IfExp t a b pos) (tOf X.K (cIf ct ca cb)):=(zRX ht ha hb).weak (by
 rintro σ H Q ⟨μ,ρ,S,d,S',sr,re,e,y⟩
 obtain ⟨k,S1,e1,e⟩:=zAb e
 refine ⟨μ,ρ,S,k,S1,sr,re,e1,fun H1 μ1 sr1 st1=>?_⟩
 cases k with
 | true=>rw [if_pos rfl] at e ⊢; exact ⟨μ1,ρ,S1,d,S',sr1,re.up st1,e,y.shift st1⟩
 | false=>rw [if_neg qA7] at e ⊢; exact ⟨μ1,ρ,S1,d,S',sr1,re.up st1,e,y.shift st1⟩)
variable {ta tb:CT}
theorem zW6 {rest:List Expr} (ha:PT X a (tOfT X.K ta)) (hb:PW X (.BoolOp .And (b::rest) pos) (tOfT X.K tb)):PW X (.BoolOp .And (a::b::rest) pos) (tOfT X.K (zMl ta tb)):=(zWH ha hb).weak (by
 rintro σ H Q ⟨μ,ρ,S,d,S',sr,re,e,y⟩
 obtain ⟨k,S1,e1,e⟩:=zAb e
 refine ⟨μ,ρ,S,k,S1,sr,re,e1,fun H1 μ1 sr1 st1=>?_⟩
 cases k with
 | true=>rw [if_pos rfl] at e ⊢; exact ⟨μ1,ρ,S1,d,S',sr1,re.up st1,e,y.shift st1⟩
 | false=>rw [if_neg qA7] at e ⊢; obtain ⟨rfl,rfl⟩:=zAR e; exact y H1 μ1 sr1 st1)
theorem zZp {rest:List Expr} (ha:PT X a (tOfT X.K ta)) (hb:PW X (.BoolOp .Or (b::rest) pos) (tOfT X.K tb)):PW X (.BoolOp .Or (a::b::rest) pos) (tOfT X.K (cOrT ta tb)):=(zZM ha hb).weak (by
 rintro σ H Q ⟨μ,ρ,S,d,S',sr,re,e,y⟩
 obtain ⟨k,S1,e1,e⟩:=zAb e
 refine ⟨μ,ρ,S,k,S1,sr,re,e1,fun H1 μ1 sr1 st1=>?_⟩
 cases k with
 | false=>rw [if_neg qA7] at e ⊢; exact ⟨μ1,ρ,S1,d,S',sr1,re.up st1,e,y.shift st1⟩
 | true=>rw [if_pos rfl] at e ⊢; obtain ⟨rfl,rfl⟩:=zAR e; exact y H1 μ1 sr1 st1)
theorem zW8 (ha:PT X a (tOfT X.K ta)):PT X (.UnaryOp .Not a pos) (tOfT X.K (zG0 ta)):=(zWI ha).weak (by
 rintro σ H Q ⟨μ,ρ,S,d,S',sr,re,e,y⟩
 obtain ⟨k,S1,e1,e⟩:=zAb e
 obtain ⟨rfl,rfl⟩:=zAR e
 exact ⟨μ,ρ,S,k,_,sr,re,e1,fun H1 μ1 sr1 st1=>y H1 μ1 sr1 st1⟩)
noncomputable def dTru (x:D):M Bool:=fun S=>match x with
 | .non=>.ok false S
 | .bl b=>.ok b S
 | .int i=>.ok (i != 0) S
 | .str y=>if y.length≤sizeLine then .ok ((y.length:Int) != 0) S else .bad
 | .tup xs=>.ok (!xs.isEmpty) S
 | .lst n=>match S[n]? with
  | some (.lst xs)=>.ok (!xs.isEmpty) S
  | _=>.bad
 | .dct n=>match S[n]? with
  | some (.dk kvs)=>.ok (!kvs.isEmpty) S
  | _=>.bad
 | .ty _=>.bad
 | .rol xs=>.ok (!xs.isEmpty) S
 | .cd _ _=>.bad
noncomputable def cTru (a:C):CT:=fun ρ=>bnd (a ρ) dTru
theorem zNh {K:W.Frag}{H:Hp}{μ:List Addr}{ds:List D}{vs:List V} (h:RVs K H μ ds vs):ds.isEmpty=vs.isEmpty:=by
 cases ds with
 | nil=>unfold RVs at h; subst h; rfl
 | cons d ds=>unfold RVs at h; obtain ⟨v,ws,rfl,_⟩:=h; rfl
theorem SR.get {K:W.Frag}{H:Hp}{μ:List Addr}{S:zA0} (sr:SR K μ S H) {n:Nat}{a:Addr}{o:O} (h:μ[n]?=some a) (ho:S[n]?=some o):OR K H μ a o:=sr.obj n a o h ho
theorem zVd {K:W.Frag}{H:Hp}{μ:List Addr}{S S':zA0}{x:D}{v:V}{k:Bool} (e:dTru x S=.ok k S') (sr:SR K μ S H) (r:RV K H μ x v):S'=S∧TruV K v H k:=by
 unfold dTru at e
 cases x with
 | non=>cases e; unfold RV at r; subst r; exact ⟨rfl,rfl⟩
 | bl b=>cases e; unfold RV at r; subst r; exact ⟨rfl,rfl⟩
 | int i=>cases e; unfold RV at r; subst r; exact ⟨rfl,rfl⟩
 | str y =>
  unfold RV at r; subst r
  dsimp only at e
  split at e
  ·rename_i hl; cases e; exact ⟨rfl,hl,rfl⟩
  ·cases e
 | tup xs =>
  cases e; unfold RV at r; obtain ⟨p,vs,rfl,q,rr⟩:=r
  exact ⟨rfl,.inr (.inl ⟨vs,SqT.of q,by rw [zNh rr]⟩)⟩
 | lst n =>
  unfold RV at r; obtain ⟨a,rfl,hm⟩:=r
  dsimp only at e
  split at e
  ·rename_i xs ho
   cases e
   obtain ⟨vs,hq,rr⟩:=sr.get hm ho
   exact ⟨rfl,.inl ⟨vs,SqL.of hq,by rw [zNh rr]⟩⟩
  ·cases e
 | dct n =>
  unfold RV at r; obtain ⟨a,rfl,hm⟩:=r
  dsimp only at e
  split at e
  ·rename_i kvs ho
   cases e
   obtain ⟨ws,hq,rr⟩:=sr.get hm ho
   refine ⟨rfl,.inr (.inr ⟨ws,hq,?_⟩)⟩
   have:=zNh rr.2
   rw [qQ7,qQ7] at this
   rw [this]
  ·cases e
 | ty _=>cases e
 | rol xs =>
  cases e; unfold RV at r; obtain ⟨p,vs,rfl,q,rr⟩:=r
  exact ⟨rfl,.inl ⟨vs,q.sq,by rw [zNh rr]⟩⟩
 | cd _ _=>cases e
theorem zW7 (ha:PE X a (tOf X.K ca)) (he:∀ whole,isTrue a X.env whole=(do let v ← whole; standAt a.pos; holding [v] (truthy v))):PT X a (tOfT X.K (cTru ca)):=(zRN ha he).weak (by
 rintro σ H Q ⟨μ,ρ,S,d,S',sr,re,e,y⟩
 obtain ⟨x,S1,e1,e⟩:=zAb e
 refine ⟨μ,ρ,S,x,S1,sr,re,e1,fun v H1 μ1 sr1 st1 r1=>?_⟩
 obtain ⟨rfl,tv⟩:=zVd e sr1 r1
 exact ⟨d,tv,y H1 μ1 sr1 st1⟩)
variable {es:List Expr}{cs:List C}
theorem zPj:PA X [] (tOfA X.K (zA1 [])):=zT5.weak (by
 rintro σ H Q ⟨μ,ρ,S,d,S',sr,re,e,y⟩
 obtain ⟨rfl,rfl⟩:=zAR e
 exact y [] H μ sr (Step.refl _ _ _) RVs.nil)
theorem zJ7 (ha:PE X a (tOf X.K ca)) (hr:PA X es (tOfA X.K (zA1 cs))) (hs:starEach (a::es) X.env=(false,eval a X.env)::starEach es X.env):PA X (a::es) (tOfA X.K (zA1 (ca::cs))):=(zPA ha hr hs).weak (by
 rintro σ H Q ⟨μ,ρ,S,d,S',sr,re,e,y⟩
 obtain ⟨x,S1,e1,e⟩:=zAb e
 obtain ⟨xs,S2,e2,e⟩:=zAb e
 obtain ⟨rfl,rfl⟩:=zAR e
 exact ⟨μ,ρ,S,x,S1,sr,re,e1,fun v H1 μ1 sr1 st1 r1=>⟨μ1,ρ,S1,xs,S',sr1,re.up st1,e2,fun vs H2 μ2 sr2 st2 r2=>y (v::vs) H2 μ2 sr2 (st1.trans st2 sr2.nd) (.cons (RV.up st2.tk st2.ext _ _ r1) r2)⟩⟩)
theorem zHH {ρ:Env1}:∀ {cs:List C}{S S':zA0}{xs:List D},zA1 cs ρ S=.ok xs S'→xs.length=cs.length
 | [],S,S',xs,e=>by obtain ⟨rfl,rfl⟩:=zAR e; rfl
 | c::cs,S,S',xs,e=>by
  obtain ⟨x,S1,e1,e⟩:=zAb e
  obtain ⟨ys,S2,e2,e⟩:=zAb e
  obtain ⟨rfl,rfl⟩:=zAR e
  rw [qD0,qD0,zHH e2]
theorem zJe {K:W.Frag}{H:Hp}{μ:List Addr}{S:zA0}{ds:List D}{vs:List V}{p:Addr} (sr:SR K μ S H) (h:H p=none) (r:RVs K H μ ds vs):SR K μ S (upd H p (.tup vs))∧Step K μ μ H (upd H p (.tup vs))∧RV K (upd H p (.tup vs)) μ (.tup ds) (.ref p):=by
 obtain ⟨s1,s2⟩:=sr.other (o:=.tup vs) h
 exact ⟨s1,s2,by unfold RV; exact ⟨p,vs,rfl,zAV,RVs.up s2.tk s2.ext _ _ r⟩⟩
theorem zUK {K:W.Frag}{H:Hp}{μ:List Addr}{S:zA0}{ds:List D}{vs:List V}{p:Addr} (sr:SR K μ S H) (h:H p=none) (r:RVs K H μ ds vs):SR K (μ++[p]) (S++[.lst ds]) (upd H p (.lst vs))∧Step K μ (μ++[p]) H (upd H p (.lst vs))∧RV K (upd H p (.lst vs)) (μ++[p]) (.lst S.length) (.ref p):=by
 obtain ⟨s1,s2⟩:=sr.push (o:=.lst vs) (o':=.lst ds) h ⟨vs,zAV,RVs.up (zJP h) ⟨[p],rfl⟩ _ _ r⟩
 exact ⟨s1,s2,by unfold RV; exact ⟨p,rfl,by rw [← sr.len,qB6 (qB0 _),qJ6]; rfl⟩⟩
theorem Yld.newL {K:W.Frag}{H:Hp}{μ:List Addr}{S:zA0}{ds:List D}{vs:List V}{p:Addr}{Q:VK} (y:Yld K μ H (.lst S.length) (S++[.lst ds]) Q) (sr:SR K μ S H) (h:H p=none) (r:RVs K H μ ds vs):Q (.ref p) (upd H p (.lst vs)):=by
 obtain ⟨s1,s2,s3⟩:=zUK sr h r
 exact y _ _ _ s1 s2 s3
theorem Yld.newT {K:W.Frag}{H:Hp}{μ:List Addr}{S:zA0}{ds:List D}{vs:List V}{p:Addr}{Q:VK} (y:Yld K μ H (.tup ds) S Q) (sr:SR K μ S H) (h:H p=none) (r:RVs K H μ ds vs):Q (.ref p) (upd H p (.tup vs)):=by
 obtain ⟨s1,s2,s3⟩:=zJe sr h r
 exact y _ _ _ s1 s2 s3
theorem zWp {x1} (h:PA X es (tOfA X.K (zA1 cs))) (hl:cs.length≤1000):PE X (.Tuple es x1 pos) (tOf X.K (cTup (zA1 cs))):=(zWS h).weak (by
 rintro σ H Q ⟨μ,ρ,S,d,S',sr,re,e,y⟩
 obtain ⟨xs,S1,e1,e⟩:=zAb e
 obtain ⟨rfl,rfl⟩:=zAR e
 refine ⟨μ,ρ,S,xs,S',sr,re,e1,fun vs H1 μ1 sr1 st1 r1=>⟨?_,fun p hp=>(y.shift st1).newT sr1 hp r1⟩⟩
 have h1:=zHH e1
 have h2:=r1.len
 exact qH0 (zJV (by omega)))
theorem zWr (h:PA X es (tOfA X.K (zA1 cs))) (hl:cs.length≤1000):PE X (.List es pos) (tOf X.K (cLst (zA1 cs))):=(zWX h).weak (by
 rintro σ H Q ⟨μ,ρ,S,d,S',sr,re,e,y⟩
 obtain ⟨xs,S1,e1,e⟩:=zAb e
 cases e
 refine ⟨μ,ρ,S,xs,S1,sr,re,e1,fun vs H1 μ1 sr1 st1 r1=>⟨?_,fun p hp=>(y.shift st1).newL sr1 hp r1⟩⟩
 have h1:=zHH e1
 have h2:=r1.len
 exact qH0 (zJV (by omega)))
theorem zZv {o:D→D→M D} (ho:OpS X.K (zQa X) o) (ha:PE X a (tOf X.K ca)) (hb:PE X b (tOf X.K cb)) (hs:zMv b):PE X (.Subscript a b pos) (tOf X.K (cBin o ca cb)):=(zZX zaA ha hb hs).weak (zMU ho)
noncomputable def CO:=Env1→M (Option Int)
noncomputable def zCM:CO:=fun _=>ret none
noncomputable def dInt (x:D):M Int:=match x with
 | .int i=>ret i
 | _=>bad
noncomputable def zEY (a:C):CO:=fun ρ=>bnd (a ρ) fun x=>bnd (dInt x) fun i=>ret (some i)
def YldO (K:W.Frag) (μ:List Addr) (H:Hp) (b:Option Int) (S':zA0) (Q:Option Int→Hp→Prop):Prop:=∀ H' μ',SR K μ' S' H'→Step K μ μ' H H'→Q b H'
inductive tOfO (K:W.Frag) (c:CO) (σ:St) (H:Hp) (Q:Option Int→Hp→Prop):Prop
 | mk (μ:List Addr) (ρ:Env1) (S:zA0) (d:Option Int) (S':zA0) (sr:SR K μ S H) (re:RE K H μ ρ σ) (e:c ρ S=.ok d S') (y:YldO K μ H d S' Q)
theorem PO.weak {e:Option Expr}{t t':TO} (h:PO X e t) (w:∀ σ H Q,t' σ H Q→t σ H Q):PO X e t':=fun pins s σ H Q I q=>h pins s σ H Q I (w σ H Q q)
theorem zTN:PO X none (tOfO X.K zCM):=zUq.weak (by
 rintro σ H Q ⟨μ,ρ,S,d,S',sr,re,e,y⟩
 obtain ⟨rfl,rfl⟩:=zAR e
 exact y H μ sr (Step.refl _ _ _))
theorem zTM (ha:PE X a (tOf X.K ca)):PO X (some a) (tOfO X.K (zEY ca)):=(zUp ha).weak (by
 rintro σ H Q ⟨μ,ρ,S,d,S',sr,re,e,y⟩
 obtain ⟨x,S1,e1,e⟩:=zAb e
 obtain ⟨i,S2,e2,e⟩:=zAb e
 obtain ⟨rfl,rfl⟩:=zAR e
 refine ⟨μ,ρ,S,x,S1,sr,re,e1,fun v H1 μ1 sr1 st1 r1=>?_⟩
 cases x with
 | int j =>
  obtain ⟨rfl,rfl⟩:=zAR e2
  unfold RV at r1
  exact ⟨_,r1,y H1 μ1 sr1 st1⟩
 | _=>cases e2)
noncomputable def cSl (o:D→Option Int→Option Int→M D) (a:C) (lo hi:CO):C:=fun ρ=>bnd (a ρ) fun x=>bnd (lo ρ) fun l=>bnd (hi ρ) fun h=>o x l h
def SlS (K:W.Frag) (r:V→Option Int→Option Int→Hp→VK→Prop) (o:D→Option Int→Option Int→M D):Prop:=∀ x l h S d S' H μ v Q,o x l h S=.ok d S'→SR K μ S H→RV K H μ x v→Yld K μ H d S' Q→r v l h H Q
theorem zRD {lo hi:Option Expr}{cl ch:CO}{p2:Pos}{o:D→Option Int→Option Int→M D} (ho:SlS X.K (zPe X) o) (ha:PE X a (tOf X.K ca)) (hl:PO X lo (tOfO X.K cl)) (hh:PO X hi (tOfO X.K ch)):PE X (.Subscript a (.Slice lo hi none p2) pos) (tOf X.K (cSl o ca cl ch)):=(zRW zZs ha hl hh).weak (by
 rintro σ H Q ⟨μ,ρ,S,d,S',sr,re,e,y⟩
 obtain ⟨x,S1,e1,e⟩:=zAb e
 obtain ⟨l,S2,e2,e⟩:=zAb e
 obtain ⟨h,S3,e3,e⟩:=zAb e
 refine ⟨μ,ρ,S,x,S1,sr,re,e1,fun v H1 μ1 sr1 st1 r1=>⟨μ1,ρ,S1,l,S2,sr1,re.up st1,e2,fun H2 μ2 sr2 st2=>?_⟩⟩
 have st12:=st1.trans st2 sr2.nd
 refine ⟨μ2,ρ,S2,h,S3,sr2,re.up st12,e3,fun H3 μ3 sr3 st3=>?_⟩
 exact ho x l h S3 d S' H3 μ3 v Q e sr3 (RV.up st3.tk st3.ext _ _ (RV.up st2.tk st2.ext _ _ r1)) (y.shift (st12.trans st3 sr3.nd)))
def zFx (K:W.Frag) (r:List V→Hp→VK→Prop) (o:List D→M D):Prop:=∀ xs S d S' H μ vs Q,o xs S=.ok d S'→SR K μ S H→RVs K H μ xs vs→Yld K μ H d S' Q→r vs H Q
variable {ca':CA}
theorem zT6 {r:List V→Hp→VK→Prop}{o:List D→M D} (ho:zFx X.K r o):∀ σ H Q,tOf X.K (cApp o ca') σ H Q→tCB r (tOfA X.K ca') σ H Q:=by
 rintro σ H Q ⟨μ,ρ,S,d,S',sr,re,e,y⟩
 obtain ⟨xs,S1,e1,e⟩:=zAb e
 exact ⟨μ,ρ,S,xs,S1,sr,re,e1,fun vs H1 μ1 sr1 st1 r1=>ho xs S1 d S' H1 μ1 vs Q e sr1 r1 (y.shift st1)⟩
noncomputable def spOf (K:W.Frag) (φ:List D→M D) (n:Nat):Sp:=fun vs H Q E=>vs.length=n∧∃ μ ds S d S',SR K μ S H∧RVs K H μ ds vs∧φ ds S=.ok d S'∧Yld K μ H d S' Q
theorem zUI {φ:List D→M D}{n:Nat} (hn:∀ ds S d S',φ ds S=.ok d S'→ds.length=n):∀ σ H Q,tOf X.K (cApp φ ca') σ H Q→zTG (spOf X.K φ n) [] E0 (tOfA X.K ca') σ H Q:=by
 rintro σ H Q ⟨μ,ρ,S,d,S',sr,re,e,y⟩
 obtain ⟨xs,S1,e1,e⟩:=zAb e
 refine ⟨μ,ρ,S,xs,S1,sr,re,e1,fun vs H1 μ1 sr1 st1 r1=>?_⟩
 rw [qJ9]
 exact ⟨by rw [← r1.len]; exact hn _ _ _ _ e,μ1,xs,S1,d,S',sr1,r1,e,y.shift st1⟩
end
open PySem PySem.Spec PyProof.Rows
noncomputable def lim:Nat:=1048576
theorem zGc {n:Nat} (h:n≤lim):n≤sizeLine:=qC6 h (by decide)
theorem zPZ {n:Nat} (h:n<lim):n<sizeLine:=qB8 h (by decide)
section
variable {K:W.Frag}{H H' H1:Hp}{μ:List Addr}{S:zA0}
theorem SR.same (sr:SR K μ S H) (sm:Same H H1):SR K μ S H1∧Step K μ μ H H1:=by
 have tk:TF K H H1:=zP0 sm
 refine ⟨⟨sr.len,sr.nd,fun n a o e1 e2=>?_⟩,⟨⟨[],by simp,by simp⟩,fun b o _ h=>sm b o h,tk⟩⟩
 obtain ⟨u,hu⟩:=sr.isS (qB9 e1)
 exact (sr.obj n a o e1 e2).up tk ⟨[],by simp⟩ (by rw [hu]; exact sm _ _ hu)
theorem Yld.oldT {ds:List D}{vs:List V}{p:Addr}{Q:VK} (y:Yld K μ H (.tup ds) S Q) (sr:SR K μ S H) (sm:Same H H1) (h:H1 p=some (.tup vs)) (r:RVs K H μ ds vs):Q (.ref p) H1:=by
 obtain ⟨s1,s2⟩:=sr.same sm
 exact y _ _ _ s1 s2 (by unfold RV; exact ⟨p,vs,rfl,h,RVs.up s2.tk s2.ext _ _ r⟩)
theorem zBO {i:Int}:RV K H μ (.int i) (.int i):=by unfold RV; rfl
theorem zDY {i:Bool}:RV K H μ (.bl i) (.bl i):=by unfold RV; rfl
theorem zGX:RV K H μ .non .non:=by unfold RV; rfl
theorem zT1 {i:Str}:RV K H μ (.str i) (.str i):=by unfold RV; rfl
theorem SR.lst (sr:SR K μ S H) {n:Nat}{a:Addr}{xs:List D} (h:μ[n]?=some a) (ho:S[n]?=some (.lst xs)):∃ vs,H a=some (.lst vs)∧RVs K H μ xs vs:=sr.obj n a _ h ho
noncomputable def zA6 (S:zA0) (n:Nat):Option (List D):=match S[n]? with
 | some (.lst xs)=>some xs
 | _=>none
theorem SR.sq (sr:SR K μ S H) {n:Nat}{a:Addr}{xs:List D} (h:μ[n]?=some a) (ho:zA6 S n=some xs):∃ vs,SqL K H a vs∧RVs K H μ xs vs:=by
 unfold zA6 at ho
 split at ho
 ·rename_i ys e; cases ho
  obtain ⟨vs,q,r⟩:=sr.get h e
  exact ⟨vs,SqL.of q,r⟩
 ·cases ho
noncomputable def zJ5 (S:zA0):D→Option (List D)
 | .tup xs=>some xs
 | .lst n=>zA6 S n
 | .rol xs=>some xs
 | _=>none
theorem SR.seq (sr:SR K μ S H) {x:D}{v:V}{xs:List D} (r:RV K H μ x v) (ho:zJ5 S x=some xs):∃ a vs,v=.ref a∧(SqL K H a vs∨SqT K H a vs)∧RVs K H μ xs vs:=by
 unfold zJ5 at ho
 split at ho
 ·cases ho
  unfold RV at r; obtain ⟨p,vs,rfl,q,rr⟩:=r
  exact ⟨p,vs,rfl,.inr (SqT.of q),rr⟩
 ·unfold RV at r; obtain ⟨a,rfl,hm⟩:=r
  obtain ⟨vs,q,rr⟩:=sr.sq hm ho
  exact ⟨a,vs,rfl,.inl q,rr⟩
 ·cases ho
  unfold RV at r; obtain ⟨p,vs,rfl,q,rr⟩:=r
  exact ⟨p,vs,rfl,.inl q.sq,rr⟩
 ·cases ho
theorem RVs.rep {ds:List D}{vs:List V} (h:RVs K H μ ds vs):∀ k:Nat,RVs K H μ (qC2 k ds).flatten (qC2 k vs).flatten
 | 0=>by simp; exact .nil
 | k+1=>by rw [qF4,qH3,qF4,qH3]; exact h.append (RVs.rep h k)
theorem RVs.cons_inv {d:D}{ds:List D}{vs:List V} (h:RVs K H μ (d::ds) vs):∃ v ws,vs=v::ws∧RV K H μ d v∧RVs K H μ ds ws:=by unfold RVs at h; exact h
theorem RVs.nil_inv {vs:List V} (h:RVs K H μ [] vs):vs=[]:=by unfold RVs at h; exact h
end
noncomputable def oInt (g:Int→Int→Int):D→D→M D
 | .int i,.int j=>ret (.int (g i j))
 | _,_=>bad
noncomputable def oAdd:D→D→M D
 | .int i,.int j=>ret (.int (i+j))
 | .tup xs,.tup ys=>fun S=>if xs.length+ys.length≤lim then .ok (.tup (xs++ys)) S else .bad
 | .lst n,.lst m=>fun S=>match S[n]?,S[m]? with
  | some (.lst xs),some (.lst ys)=>if xs.length+ys.length≤lim then .ok (.lst S.length) (S++[.lst (xs++ys)]) else .bad
  | _,_=>.bad
 | .str x,.str y=>fun S=>if x.length+y.length≤lim then .ok (.str (x++y)) S else .bad
 | _,_=>bad
noncomputable def zH8 (i j:Int):Bool:=(decide (-18446744073709551616<i)&&decide (i<18446744073709551616))||(decide (-18446744073709551616<j)&&decide (j<18446744073709551616))
noncomputable def oMul:D→D→M D
 | .int i,.int j=>fun S=>if zH8 i j then .ok (.int (i*j)) S else .bad
 | .tup xs,.int k=>fun S=>if xs≠[]∧2≤k∧k<1000∧xs.length*k.toNat≤lim then .ok (.tup (qC2 k.toNat xs).flatten) S else .bad
 | .lst n,.int k=>fun S=>match S[n]? with
  | some (.lst xs)=>if -1000<k∧k<1000000∧xs.length*k.toNat≤lim then .ok (.lst S.length) (S++[.lst (qC2 k.toNat xs).flatten]) else .bad
  | _=>.bad
 | _,_=>bad
noncomputable def oMod:D→D→M D
 | .int i,.int j=>fun S=>if 0<j then .ok (.int (i % j)) S else .bad
 | _,_=>bad
noncomputable def oDiv:D→D→M D
 | .int i,.int j=>fun S=>if 0<j∧j<1073741824 then .ok (.int (i / j)) S else .bad
 | _,_=>bad
noncomputable def oPow:D→D→M D
 | .int i,.int j=>fun S=>if 0≤j∧j≤1000000∧i.natAbs<18446744073709551616 then .ok (.int (i ^ j.toNat)) S else .bad
 | _,_=>bad
noncomputable def oShl:D→D→M D
 | .int i,.int j=>fun S=>if 0≤j∧j≤1000000∧i.natAbs<18446744073709551616 then .ok (.int (i*2 ^ j.toNat)) S else .bad
 | _,_=>bad
noncomputable def oShr:D→D→M D
 | .int i,.int j=>fun S=>if 0≤j then .ok (.int (i / 2 ^ j.toNat)) S else .bad
 | _,_=>bad
noncomputable def oNeg:D→M D
 | .int i=>ret (.int (-i))
 | _=>bad
section
variable {X:Cx}
theorem zMR {op:Operator}{g:Int→Int→Int} (h:OpR X (binaryOp op) (rI0 fun i j=>.int (g i j))):OpS X.K (rAny X (binaryOp op)) (oInt g):=by
 intro x y S d S' H μ v u Q e sr rx ry h'
 unfold oInt at e
 split at e
 ·obtain ⟨rfl,rfl⟩:=zAR e
  unfold RV at rx ry; subst rx ry
  exact ⟨_,h,_,_,rfl,rfl,h'.self sr zBO⟩
 ·cases e
theorem zX3:OpS X.K (rAny X (binaryOp .Sub)) (oInt fun i j=>i - j):=zMR zXf
theorem zXa:OpS X.K (rAny X (binaryOp .BitAnd)) (oInt Builtin.bitAnd):=zMR zXs
theorem za2:OpS X.K (rAny X (binaryOp .BitOr)) (oInt Builtin.bitOr):=zMR zac
theorem zX2:OpS X.K (rAny X (binaryOp .BitXor)) (oInt Builtin.bitXor):=zMR zXe
theorem zXb:OpS X.K (rAny X (binaryOp .Add)) oAdd:=by
 intro x y S d S' H μ v u Q e sr rx ry h
 unfold oAdd at e
 split at e
 ·obtain ⟨rfl,rfl⟩:=zAR e
  unfold RV at rx ry; subst rx ry
  exact ⟨_,zXt,_,_,rfl,rfl,h.self sr zBO⟩
 ·try dsimp only at e
  split at e
  ·rename_i hl; cases e
   unfold RV at rx ry
   obtain ⟨p,vs,rfl,q1,r1⟩:=rx
   obtain ⟨p2,ws,rfl,q2,r2⟩:=ry
   exact ⟨_,zS7,p,p2,vs,ws,rfl,rfl,q1,q2,by rw [← r1.len,← r2.len]; exact zGc hl,fun p3 H1 sm sq=>h.oldT sr sm sq (r1.append r2)⟩
  ·cases e
 ·try dsimp only at e
  unfold RV at rx ry
  obtain ⟨p,rfl,m1⟩:=rx
  obtain ⟨p2,rfl,m2⟩:=ry
  split at e
  ·rename_i xs ys o1 o2
   split at e
   ·rename_i hl; cases e
    obtain ⟨vs,q1,r1⟩:=sr.lst m1 o1
    obtain ⟨ws,q2,r2⟩:=sr.lst m2 o2
    exact ⟨_,zXr,p,p2,vs,ws,rfl,rfl,q1,q2,by rw [← r1.len,← r2.len]; exact zGc hl,fun p3 hp=>h.newL sr hp (r1.append r2)⟩
   ·cases e
  ·cases e
 ·try dsimp only at e
  split at e
  ·rename_i hl; cases e
   unfold RV at rx ry; subst rx ry
   exact ⟨_,zNS,_,_,rfl,rfl,zGc hl,h.self sr zT1⟩
  ·cases e
 ·cases e
theorem zUN {i j:Int} (h:zH8 i j=true):CMul i j:=by
 unfold zH8 at h
 simp only [qG9,qC7,decide_eq_true_eq] at h
 exact h
theorem zX7:OpS X.K (rAny X (binaryOp .Mult)) oMul:=by
 intro x y S d S' H μ v u Q e sr rx ry h
 unfold oMul at e
 split at e
 ·try dsimp only at e
  split at e
  ·rename_i hl; cases e
   unfold RV at rx ry; subst rx ry
   exact ⟨_,zXl,_,_,rfl,rfl,zUN hl,h.self sr zBO⟩
  ·cases e
 ·try dsimp only at e
  split at e
  ·rename_i hl; cases e
   obtain ⟨h1,h2,h3,h4⟩:=hl
   unfold RV at rx ry
   obtain ⟨p,vs,rfl,q1,r1⟩:=rx
   subst ry
   refine ⟨_,zUB,p,vs,_,rfl,rfl,SqT.of q1,?_,h2,h3,by rw [← r1.len]; exact zGc h4,fun p hp=>h.newT sr hp (r1.rep _)⟩
   intro z; subst z
   have:=r1.len
   exact h1 (qI1.mp this)
  ·cases e
 ·try dsimp only at e
  split at e
  ·rename_i ys o1
   split at e
   ·rename_i hl; cases e
    obtain ⟨h1,h2,h3⟩:=hl
    unfold RV at rx ry
    obtain ⟨p,rfl,m1⟩:=rx
    subst ry
    obtain ⟨vs,q1,r1⟩:=sr.lst m1 o1
    exact ⟨_,zXi,p,_,vs,rfl,rfl,q1,by omega,by omega,by rw [← r1.len]; exact zGc h3,fun p hp=>h.newL sr hp (r1.rep _)⟩
   ·cases e
  ·cases e
 ·cases e
theorem zX8:OpS X.K (rAny X (binaryOp .Mod)) oMod:=by
 intro x y S d S' H μ v u Q e sr rx ry h
 unfold oMod at e
 split at e
 ·try dsimp only at e
  split at e
  ·rename_i hl; cases e
   unfold RV at rx ry; subst rx ry
   exact ⟨_,zXm,_,_,rfl,rfl,hl,h.self sr zBO⟩
  ·cases e
 ·cases e
theorem zX9:OpS X.K (rAny X (binaryOp .FloorDiv)) oDiv:=by
 intro x y S d S' H μ v u Q e sr rx ry h
 unfold oDiv at e
 split at e
 ·try dsimp only at e
  split at e
  ·rename_i hl; cases e
   unfold RV at rx ry; subst rx ry
   exact ⟨_,zUD,_,_,rfl,rfl,hl,h.self sr zBO⟩
  ·cases e
 ·cases e
theorem zX6:OpS X.K (rAny X (binaryOp .Pow)) oPow:=by
 intro x y S d S' H μ v u Q e sr rx ry h
 unfold oPow at e
 split at e
 ·try dsimp only at e
  split at e
  ·rename_i hl; cases e
   unfold RV at rx ry; subst rx ry
   exact ⟨_,zXj,_,_,rfl,rfl,hl,h.self sr zBO⟩
  ·cases e
 ·cases e
theorem zX5:OpS X.K (rAny X (binaryOp .LShift)) oShl:=by
 intro x y S d S' H μ v u Q e sr rx ry h
 unfold oShl at e
 split at e
 ·try dsimp only at e
  split at e
  ·rename_i hl; cases e
   unfold RV at rx ry; subst rx ry
   exact ⟨_,zXh,_,_,rfl,rfl,hl,h.self sr zBO⟩
  ·cases e
 ·cases e
theorem zX4:OpS X.K (rAny X (binaryOp .RShift)) oShr:=by
 intro x y S d S' H μ v u Q e sr rx ry h
 unfold oShr at e
 split at e
 ·try dsimp only at e
  split at e
  ·rename_i hl; cases e
   unfold RV at rx ry; subst rx ry
   exact ⟨_,zXg,_,_,rfl,rfl,hl,h.self sr zBO⟩
  ·cases e
 ·cases e
theorem zVR:UnS X.K (uAny X (unaryOp .USub)) oNeg:=by
 intro x S d S' H μ v Q e sr rx h
 unfold oNeg at e
 split at e
 ·obtain ⟨rfl,rfl⟩:=zAR e
  unfold RV at rx; subst rx
  exact ⟨_,zVS,_,rfl,h.self sr zBO⟩
 ·cases e
noncomputable def oCmp (g:Int→Int→Bool):D→D→M D
 | .int i,.int j=>ret (.bl (g i j))
 | _,_=>bad
theorem zPB {op:CmpOp}{g:Int→Int→Bool} (h:OpR X (compareOp op) (rI0 fun i j=>.bl (g i j))):OpS X.K (rAny X (compareOp op)) (oCmp g):=by
 intro x y S d S' H μ v u Q e sr rx ry h'
 unfold oCmp at e
 split at e
 ·obtain ⟨rfl,rfl⟩:=zAR e
  unfold RV at rx ry; subst rx ry
  exact ⟨_,h,_,_,rfl,rfl,h'.self sr zDY⟩
 ·cases e
theorem za5:OpS X.K (rAny X (compareOp .LtE)) (oCmp fun i j=>decide (i≤j)):=zPB zaf
theorem za9:OpS X.K (rAny X (compareOp .Gt)) (oCmp fun i j=>decide (j<i)):=zPB zag
theorem zaa:OpS X.K (rAny X (compareOp .GtE)) (oCmp fun i j=>decide (j≤i)):=zPB zah
noncomputable def zGf:List D→Option (List Int)
 | []=>some []
 | .int i::r=>(zGf r).map (i::·)
 | _::_=>none
theorem zHh {K:W.Frag}{H:Hp}{μ:List Addr}:∀ {ds:List D}{ns:List Int}{vs:List V},zGf ds=some ns→RVs K H μ ds vs→vs=ns.map V.int
 | [],ns,vs,e,r=>by cases e; rw [r.nil_inv]; rfl
 | .int i::ds,ns,vs,e,r=>by
  obtain ⟨v,ws,rfl,r1,r2⟩:=r.cons_inv
  unfold zGf at e
  cases q:zGf ds with
  | none=>rw [q] at e; cases e
  | some ms =>
   rw [q] at e; cases e
   unfold RV at r1; subst r1
   rw [zHh q r2]; rfl
 | .non::ds,ns,vs,e,r=>by cases e
 | .bl _::ds,ns,vs,e,r=>by cases e
 | .str _::ds,ns,vs,e,r=>by cases e
 | .ty _::ds,ns,vs,e,r=>by cases e
 | .tup _::ds,ns,vs,e,r=>by cases e
 | .lst _::ds,ns,vs,e,r=>by cases e
 | .dct _::ds,ns,vs,e,r=>by cases e
 | .rol _::ds,ns,vs,e,r=>by cases e
 | .cd _ _::ds,ns,vs,e,r=>by cases e
noncomputable def oLt:D→D→M D
 | .int i,.int j=>ret (.bl (decide (i<j)))
 | _,_=>bad
theorem za4 (hu:X.A.units<cLine):OpS X.K (rAny X (compareOp .Lt)) oLt:=by
 intro x y S d S' H μ v u Q e sr rx ry h
 unfold oLt at e
 split at e
 ·obtain ⟨rfl,rfl⟩:=zAR e
  unfold RV at rx ry; subst rx ry
  exact ⟨_,zae,_,_,rfl,rfl,h.self sr zDY⟩
 ·cases e
noncomputable def snap:Nat→zA0→D→Option PyData
 | 0,_,_=>none
 | n+1,S,d=>match d with
  | .non=>some .none
  | .bl b=>some (.bool b)
  | .int i=>some (.int i)
  | .str x=>if PyData.strOk x then some (.str x) else none
  | .tup xs=>(xs.mapM (snap n S)).map .tuple
  | .lst k=>match zA6 S k with
   | some xs=>(xs.mapM (snap n S)).map .list
   | none=>none
  | _=>none
theorem zRy {K:W.Frag}{H:Hp}{μ:List Addr}{S:zA0}{n:Nat} (ih:∀ d v p,snap n S d=some p→RV K H μ d v→Rp K H (fun _=>True) v p∧p.canLay0=true∧p.depth≤n):∀ (xs:List D) (vs:List V) (ps:List PyData),xs.mapM (snap n S)=some ps→RVs K H μ xs vs→RpL K H (fun _=>True) vs ps∧PyData.canLayAll0 ps=true∧PyData.depthAll ps≤n
 | [],vs,ps,e,r=>by
  simp at e; subst e
  rw [r.nil_inv]
  exact ⟨.nil,rfl,qJ2 _⟩
 | d::ds,vs,ps,e,r=>by
  obtain ⟨v,ws,rfl,r1,r2⟩:=r.cons_inv
  rw [qF8] at e
  cases q:snap n S d with
  | none=>rw [q] at e; cases e
  | some p =>
   cases q2:ds.mapM (snap n S) with
   | none=>rw [q,q2] at e; cases e
   | some ps' =>
    rw [q,q2] at e
    cases e
    obtain ⟨a1,a2,a3⟩:=ih d v p q r1
    obtain ⟨b1,b2,b3⟩:=zRy ih ds ws ps' q2 r2
    refine ⟨.cons a1 b1,?_,?_⟩
    ·show (PyData.canLay0 p&&PyData.canLayAll0 ps')=true
     rw [a2,b2]; rfl
    ·show max p.depth (PyData.depthAll ps')≤n
     omega
theorem zDQ {K:W.Frag}{H:Hp}{μ:List Addr}{S:zA0} (sr:SR K μ S H):∀ (n:Nat) (d:D) (v:V) (p:PyData),snap n S d=some p→RV K H μ d v→Rp K H (fun _=>True) v p∧p.canLay0=true∧p.depth≤n
 | 0,d,v,p,e,r=>by cases e
 | n+1,d,v,p,e,r=>by
  unfold snap at e
  cases d with
  | non=>cases e; unfold RV at r; subst r; exact ⟨.non,rfl,qJ2 _⟩
  | bl b=>cases e; unfold RV at r; subst r; exact ⟨.bl b,rfl,qJ2 _⟩
  | int i=>cases e; unfold RV at r; subst r; exact ⟨.int i,rfl,qJ2 _⟩
  | str x =>
   dsimp only at e
   split at e
   ·rename_i hs; cases e; unfold RV at r; subst r; exact ⟨.str x,hs,qJ2 _⟩
   ·cases e
  | tup xs =>
   dsimp only at e
   cases q:xs.mapM (snap n S) with
   | none=>rw [q] at e; cases e
   | some ps =>
    rw [q] at e; cases e
    unfold RV at r; obtain ⟨a,vs,rfl,hq,rr⟩:=r
    obtain ⟨b1,b2,b3⟩:=zRy (fun d v p e r=>zDQ sr n d v p e r) xs vs ps q rr
    exact ⟨.tup (SqT.of hq) b1,b2,qQ8 b3⟩
  | lst k =>
   dsimp only at e
   split at e
   ·rename_i xs hx
    cases q:xs.mapM (snap n S) with
    | none=>rw [q] at e; cases e
    | some ps =>
     rw [q] at e; cases e
     unfold RV at r; obtain ⟨a,rfl,hm⟩:=r
     obtain ⟨vs,hq,rr⟩:=sr.sq hm hx
     obtain ⟨b1,b2,b3⟩:=zRy (fun d v p e r=>zDQ sr n d v p e r) xs vs ps q rr
     exact ⟨.lst True.intro hq b1,b2,qQ8 b3⟩
   ·cases e
  | dct k=>cases e
  | ty k=>cases e
  | rol k=>cases e
  | cd _ _=>cases e
noncomputable def oEq:D→D→M D:=fun x y S=>match x,y with
 | .str a,.str b=>.ok (.bl (decide (a=b))) S
 | _,_=>match snap 40 S x,snap 40 S y with
  | some p,some q=>.ok (.bl (PyData.eqv p q)) S
  | _,_=>.bad
noncomputable def oNe:D→D→M D:=fun x y S=>match x,y with
 | .str a,.str b=>.ok (.bl (!decide (a=b))) S
 | _,_=>match snap 40 S x,snap 40 S y with
  | some p,some q=>.ok (.bl (!PyData.eqv p q)) S
  | _,_=>.bad
theorem zab (hu:X.A.units+64<cLine):OpS X.K (rAny X (compareOp .Eq)) oEq:=by
 intro x y S d S' H μ v u Q e sr rx ry h
 unfold oEq at e
 split at e
 ·rename_i a b
  cases e
  unfold RV at rx ry; subst rx ry
  refine ⟨_,zai,rfl,?_⟩
  have z:decide (V.str a=V.str b)=decide (a=b):=by simp
  rw [z]
  exact h.self sr zDY
 ·split at e
  ·rename_i p q e1 e2
   cases e
   obtain ⟨a1,a2,a3⟩:=zDQ sr 40 x v p e1 rx
   obtain ⟨b1,b2,b3⟩:=zDQ sr 40 y u q e2 ry
   exact ⟨_,zXp hu,_,_,p,q,a1,b1,⟨a2,by omega⟩,⟨b2,by omega⟩,h.self sr zDY⟩
  ·cases e
theorem za3 (hu:X.A.units+64<cLine):OpS X.K (rAny X (compareOp .NotEq)) oNe:=by
 intro x y S d S' H μ v u Q e sr rx ry h
 unfold oNe at e
 split at e
 ·rename_i a b
  cases e
  unfold RV at rx ry; subst rx ry
  refine ⟨_,zad,rfl,?_⟩
  have z:decide (V.str a=V.str b)=decide (a=b):=by simp
  rw [z]
  exact h.self sr zDY
 ·split at e
  ·rename_i p q e1 e2
   cases e
   obtain ⟨a1,a2,a3⟩:=zDQ sr 40 x v p e1 rx
   obtain ⟨b1,b2,b3⟩:=zDQ sr 40 y u q e2 ry
   exact ⟨_,zXk hu,_,_,p,q,a1,b1,⟨a2,by omega⟩,⟨b2,by omega⟩,h.self sr zDY⟩
  ·cases e
noncomputable def D.isNon:D→Bool
 | .non=>true
 | _=>false
theorem zQd {K:W.Frag}{H:Hp}{μ:List Addr}{x:D}{v:V} (r:RV K H μ x v):decide (v=.non)=x.isNon:=by
 cases x with
 | non=>unfold RV at r; subst r; rfl
 | bl _=>unfold RV at r; subst r; rfl
 | int _=>unfold RV at r; subst r; rfl
 | str _=>unfold RV at r; subst r; rfl
 | ty _=>unfold RV at r; subst r; rfl
 | tup _=>unfold RV at r; obtain ⟨_,_,rfl,_⟩:=r; rfl
 | lst _=>unfold RV at r; obtain ⟨_,rfl,_⟩:=r; rfl
 | dct _=>unfold RV at r; obtain ⟨_,rfl,_⟩:=r; rfl
 | rol _=>unfold RV at r; obtain ⟨_,_,rfl,_⟩:=r; rfl
 | cd _ _=>unfold RV at r; obtain ⟨_,_,_,rfl,_⟩:=r; rfl
noncomputable def oIs:D→D→M D
 | x,.non=>ret (.bl x.isNon)
 | .bl a,.bl b=>ret (.bl (a == b))
 | _,_=>bad
noncomputable def zKm:D→D→M D
 | x,.non=>ret (.bl (!x.isNon))
 | .bl a,.bl b=>ret (.bl (a != b))
 | _,_=>bad
theorem za7:OpS X.K (rAny X (compareOp .Is)) oIs:=by
 intro x y S d S' H μ v u Q e sr rx ry h
 unfold oIs at e
 split at e
 ·obtain ⟨rfl,rfl⟩:=zAR e
  unfold RV at ry
  exact ⟨_,zXn,ry,by rw [zQd rx]; exact h.self sr zDY⟩
 ·obtain ⟨rfl,rfl⟩:=zAR e
  unfold RV at rx ry; subst rx ry
  exact ⟨_,zS6,_,_,rfl,rfl,h.self sr zDY⟩
 ·cases e
theorem zS5:OpS X.K (rAny X (compareOp .IsNot)) zKm:=by
 intro x y S d S' H μ v u Q e sr rx ry h
 unfold zKm at e
 split at e
 ·obtain ⟨rfl,rfl⟩:=zAR e
  unfold RV at ry
  exact ⟨_,zUC,ry,by rw [zQd rx]; exact h.self sr zDY⟩
 ·obtain ⟨rfl,rfl⟩:=zAR e
  unfold RV at rx ry; subst rx ry
  exact ⟨_,zLy,_,_,rfl,rfl,h.self sr zDY⟩
 ·cases e
noncomputable def flat:D→Option V
 | .non=>some .non
 | .bl b=>some (.bl b)
 | .int i=>some (.int i)
 | .str x=>some (.str x)
 | _=>none
theorem zTe {K:W.Frag}{H:Hp}{μ:List Addr}{x:D}{v w:V} (e:flat x=some w) (r:RV K H μ x v):v=w:=by
 cases x with
 | non=>cases e; unfold RV at r; exact r
 | bl _=>cases e; unfold RV at r; exact r
 | int _=>cases e; unfold RV at r; exact r
 | str _=>cases e; unfold RV at r; exact r
 | _=>cases e
theorem zQt {K:W.Frag}{H:Hp}{μ:List Addr}:∀ {ds:List D}{vs ws:List V},ds.mapM flat=some ws→RVs K H μ ds vs→vs=ws
 | [],vs,ws,e,r=>by simp at e; subst e; exact r.nil_inv
 | d::ds,vs,ws,e,r=>by
  obtain ⟨v,us,rfl,r1,r2⟩:=r.cons_inv
  rw [qF8] at e
  cases q:flat d with
  | none=>rw [q] at e; cases e
  | some w =>
   cases q2:ds.mapM flat with
   | none=>rw [q,q2] at e; cases e
   | some ws' =>
    rw [q,q2] at e; cases e
    rw [zTe q r1,zQt q2 r2]
noncomputable def zER:D→Option Key
 | .int i=>some (.inl i)
 | .str x=>some (.inr x)
 | _=>none
theorem zJl {K:W.Frag}{H:Hp}{μ:List Addr}{x:D}{v:V}{k:Key} (e:zER x=some k) (r:RV K H μ x v):v=kV k:=by
 cases x with
 | int _=>cases e; unfold RV at r; exact r
 | str _=>cases e; unfold RV at r; exact r
 | _=>cases e
theorem zJk {K:W.Frag}{H:Hp}{μ:List Addr}:∀ {ds:List D}{vs:List V}{ks:List Key},ds.mapM zER=some ks→RVs K H μ ds vs→vs=ks.map kV
 | [],vs,ws,e,r=>by simp at e; subst e; exact r.nil_inv
 | d::ds,vs,ws,e,r=>by
  obtain ⟨v,us,rfl,r1,r2⟩:=r.cons_inv
  rw [qF8] at e
  cases q:zER d with
  | none=>rw [q] at e; cases e
  | some w =>
   cases q2:ds.mapM zER with
   | none=>rw [q,q2] at e; cases e
   | some ws' =>
    rw [q,q2] at e; cases e
    rw [zJl q r1,zJk q2 r2]; rfl
noncomputable def valD {κ:Type} [DecidableEq κ] (kvs:List (κ × D)) (k:κ):Option D:=(kvs.find? fun kv=>decide (kv.1=k)).map (·.2)
noncomputable def putD {κ:Type} [DecidableEq κ] (kvs:List (κ × D)) (k:κ) (v:D):List (κ × D) :=
 if (kvs.any fun kv=>decide (kv.1=k))=true then kvs.map (fun kv=>if kv.1=k then (kv.1,v) else kv) else kvs++[(k,v)]
section
variable {κ:Type} [DecidableEq κ] {K:W.Frag}{H:Hp}{μ:List Addr}
theorem RKs.cons_inv {p:κ × D}{kvs:List (κ × D)}{ws:List (κ × V)} (h:RKs K H μ (p::kvs) ws):∃ q us,ws=q::us∧p.1=q.1∧RV K H μ p.2 q.2∧RKs K H μ kvs us:=by
 obtain ⟨h1,h2⟩:=h
 rw [qC5] at h1 h2
 obtain ⟨v,vs,e,r1,r2⟩:=h2.cons_inv
 cases ws with
 | nil=>simp at h1
 | cons q us =>
  rw [qC5] at h1 e
  cases e
  rw [qQ9.injEq] at h1
  exact ⟨q,us,rfl,h1.1,r1,h1.2,r2⟩
theorem RKs.val {k:κ}:∀ {kvs:List (κ × D)}{ws:List (κ × V)},RKs K H μ kvs ws→(∀ d,valD kvs k=some d→∃ v,valV ws k=some v∧RV K H μ d v)∧(valD kvs k=none→valV ws k=none)
 | [],ws,h=>by
  have:ws=[]:=by have:=h.1; cases ws with | nil=>rfl | cons a b=>simp at this
  subst this
  exact ⟨fun d e=>(by cases e),fun _=>rfl⟩
 | p::kvs,ws,h=>by
  obtain ⟨q,us,rfl,e1,r1,r2⟩:=h.cons_inv
  obtain ⟨i1,i2⟩:=RKs.val (k:=k) r2
  by_cases hk:p.1=k
  ·have e2:valD (p::kvs) k=some p.2:=by simp [valD,qE3,hk]
   rw [e2,zGC (e1▸hk)]
   exact ⟨fun d e=>by cases e; exact ⟨_,rfl,r1⟩,fun e=>by cases e⟩
  ·have e2:valD (p::kvs) k=valD kvs k:=by simp [valD,qE3,hk]
   rw [e2,zGD (e1▸hk)]
   exact ⟨i1,i2⟩
theorem RKs.nil:RKs K H μ ([]:List (κ × D)) []:=⟨rfl,RVs.nil⟩
theorem RKs.cons {k:κ}{d:D}{v:V}{kvs:List (κ × D)}{ws:List (κ × V)} (r:RV K H μ d v) (h:RKs K H μ kvs ws):RKs K H μ ((k,d)::kvs) ((k,v)::ws):=⟨by rw [qC5,qC5,h.1],by rw [qC5,qC5]; exact .cons r h.2⟩
theorem RKs.any {k:κ}:∀ {kvs:List (κ × D)}{ws:List (κ × V)},RKs K H μ kvs ws→(kvs.any fun kv=>decide (kv.1=k))=(ws.any fun kv=>decide (kv.1=k))
 | [],ws,h=>by
  have:ws=[]:=by have:=h.1; cases ws with | nil=>rfl | cons a b=>simp at this
  subst this; rfl
 | p::kvs,ws,h=>by
  obtain ⟨q,us,rfl,e1,r1,r2⟩:=h.cons_inv
  rw [qE9,qE9,RKs.any r2,e1]
theorem RKs.mapSet {k:κ}{d:D}{v:V} (rv:RV K H μ d v):∀ {kvs:List (κ × D)}{ws:List (κ × V)},RKs K H μ kvs ws→RKs K H μ (kvs.map (fun kv=>if kv.1=k then (kv.1,d) else kv)) (ws.map (fun kv=>if kv.1=k then (kv.1,v) else kv))
 | [],ws,h=>by
  have:ws=[]:=by have:=h.1; cases ws with | nil=>rfl | cons a b=>simp at this
  subst this; exact .nil
 | p::kvs,ws,h=>by
  obtain ⟨q,us,rfl,e1,r1,r2⟩:=h.cons_inv
  rw [qC5,qC5]
  obtain ⟨p1,p2⟩:=p
  obtain ⟨q1,q2⟩:=q
  dsimp only at e1 r1 ⊢
  subst e1
  by_cases hk:p1=k
  ·rw [if_pos hk,if_pos hk]; exact .cons rv (RKs.mapSet rv r2)
  ·rw [if_neg hk,if_neg hk]; exact .cons r1 (RKs.mapSet rv r2)
theorem RKs.append {as:List (κ × D)}{bs:List (κ × V)}{cs:List (κ × D)}{ds:List (κ × V)} (h:RKs K H μ as bs) (g:RKs K H μ cs ds):RKs K H μ (as++cs) (bs++ds):=⟨by rw [qE4,qE4,h.1,g.1],by rw [qE4,qE4]; exact h.2.append g.2⟩
theorem RKs.put {k:κ}{d:D}{v:V} (rv:RV K H μ d v) {kvs:List (κ × D)}{ws:List (κ × V)} (h:RKs K H μ kvs ws):RKs K H μ (putD kvs k d) (putK ws k v):=by
 unfold putD putK
 rw [h.any (k:=k)]
 by_cases hc:(ws.any fun kv=>decide (kv.1=k))=true
 ·rw [if_pos hc,if_pos hc]; exact h.mapSet rv
 ·rw [if_neg hc,if_neg hc]; exact h.append (.cons rv .nil)
theorem RKs.len {kvs:List (κ × D)}{ws:List (κ × V)} (h:RKs K H μ kvs ws):kvs.length=ws.length:=by
 have:=congrArg qO6 h.1
 simpa using this
end
noncomputable def dictAt (S:zA0) (n:Nat) (x:D):Option (Option D):=match S[n]? with
 | some (.dk kvs)=>(zER x).map fun k=>valD kvs k
 | _=>none
theorem zKL {K:W.Frag}{H:Hp}{μ:List Addr}{S:zA0}{n:Nat}{x:D}{v:V}{a:Addr}{r:Option D} (sr:SR K μ S H) (e:dictAt S n x=some r) (hm:μ[n]?=some a) (rx:RV K H μ x v):∃ o,DGet H a v o∧(∀ d,r=some d→∃ w,o=some w∧RV K H μ d w)∧(r=none→o=none):=by
 unfold dictAt at e
 split at e
 ·rename_i kvs ho
  cases q:zER x with
  | none=>rw [q] at e; cases e
  | some k =>
   rw [q] at e; cases e
   obtain ⟨ws,hw,rr⟩:=sr.get hm ho
   have:=zJl q rx
   subst this
   exact ⟨valV ws k,DGet.k hw,(rr.val (k:=k)).1,(rr.val (k:=k)).2⟩
 ·cases e
noncomputable def oIn (neg:Bool):D→D→M D:=fun x y S=>match y with
 | .dct n=>match dictAt S n x with
  | some o=>.ok (.bl (if neg then !o.isSome else o.isSome)) S
  | none=>.bad
 | _=>match zJ5 S y,flat x with
  | some ys,some v=>match ys.mapM flat with
   | some vs=>.ok (.bl (if neg then !inV v vs else inV v vs)) S
   | none=>.bad
  | some ys,none=>match snap 40 S x,ys.mapM (snap 40 S) with
   | some p,some ps=>.ok (.bl (if neg then !(ps.any fun d=>PyData.eqv d p) else ps.any fun d=>PyData.eqv d p)) S
   | _,_=>.bad
  | _,_=>.bad
theorem zIJ {x:D}{v:V} (h:flat x=some v):zI6 v=true:=by
 cases x <;> first | (cases h; rfl) | cases h
theorem zHr:∀ {ds:List D}{vs:List V},ds.mapM flat=some vs→vs.all zI6=true
 | [],vs,e=>by simp at e; subst e; rfl
 | d::ds,vs,e=>by
  rw [qF8] at e
  cases q:flat d with
  | none=>rw [q] at e; cases e
  | some w =>
   cases q2:ds.mapM flat with
   | none=>rw [q,q2] at e; cases e
   | some ws' =>
    rw [q,q2] at e; cases e
    rw [qJ8,zIJ q,zHr q2]; rfl
theorem zXq (hu:X.A.units+1<cLine):OpR X (compareOp .In) (fun y x H Q=>∃ a o,x=.ref a∧DGet H a y o∧Q (.bl o.isSome) H):=by
 intro pins s σ H y x v u Q I ry rx h
 obtain ⟨a,o,rfl,g,q⟩:=h
 obtain rfl:u=Value.ref a:=rx
 exact d_in hu I g ry fun s3 I3=>⟨.bl o.isSome,H,I3,rfl,q⟩
theorem zPE (hu:X.A.units+1<cLine):OpR X (compareOp .NotIn) (fun y x H Q=>∃ a o,x=.ref a∧DGet H a y o∧Q (.bl (!o.isSome)) H):=by
 intro pins s σ H y x v u Q I ry rx h
 obtain ⟨a,o,rfl,g,q⟩:=h
 obtain rfl:u=Value.ref a:=rx
 exact zVc hu I g ry fun s3 I3=>⟨.bl (!o.isSome),H,I3,rfl,q⟩
theorem zUG {n:Nat}:∀ {ps:List PyData},PyData.canLayAll0 ps=true→PyData.depthAll ps≤n→∀ d∈ps,d.canLay0=true∧d.depth≤n
 | [],_,_,d,h=>by cases h
 | p::ps,h1,h2,d,h=>by
  replace h1:(PyData.canLay0 p&&PyData.canLayAll0 ps)=true:=h1
  replace h2:max p.depth (PyData.depthAll ps)≤n:=h2
  rw [qC7] at h1
  rcases qB7.mp h with rfl | h
  ·exact ⟨h1.1,by omega⟩
  ·exact zUG h1.2 (by omega) d h
theorem zIw {neg:Bool}{op:CmpOp} (h1:OpR X (compareOp op) (rIn X.K neg)) (h2:OpR X (compareOp op) (fun y x H Q=>∃ a o,x=.ref a∧DGet H a y o∧Q (.bl (if neg then !o.isSome else o.isSome)) H))
  (h3:OpR X (compareOp op) (rInG X.K neg))
  : OpS X.K (rAny X (compareOp op)) (oIn neg):=by
 intro x y S d S' H μ v u Q e sr rx ry h
 unfold oIn at e
 split at e
 ·rename_i n
  split at e
  ·rename_i o ho
   cases e
   unfold RV at ry
   obtain ⟨a,rfl,hm⟩:=ry
   obtain ⟨o',g,g1,g2⟩:=zKL sr ho hm rx
   have e2:o'.isSome=o.isSome:=by
    cases o with
    | none=>simp [g2 rfl]
    | some d=>obtain ⟨w,rfl,_⟩:=g1 d rfl; rfl
   exact ⟨_,h2,a,o',rfl,g,by rw [e2]; exact h.self sr zDY⟩
  ·cases e
 ·split at e
  ·rename_i ys w e1 e2
   split at e
   ·rename_i ws e3
    cases e
    obtain ⟨a,vs,rfl,hq,rr⟩:=sr.seq ry e1
    have z1:=zTe e2 rx
    have z2:=zQt e3 rr
    subst z1 z2
    exact ⟨_,h1,a,vs,rfl,hq,zIJ e2,zHr e3,h.self sr zDY⟩
   ·cases e
  ·rename_i ys e1 e2
   split at e
   ·rename_i p ps hp hps
    cases e
    obtain ⟨a,vs,rfl,hq,rr⟩:=sr.seq ry e1
    obtain ⟨a1,a2,a3⟩:=zDQ sr 40 x v p hp rx
    obtain ⟨b1,b2,b3⟩:=zRy (fun d v p e r=>zDQ sr 40 d v p e r) ys vs ps hps rr
    exact ⟨_,h3,a,vs,_,_,p,ps,rfl,hq,a1,⟨a2,by omega⟩,b1,fun d hd=>⟨(zUG b2 b3 d hd).1,by have:=(zUG b2 b3 d hd).2; omega⟩,h.self sr zDY⟩
   ·cases e
  ·cases e
theorem za8 (hu:X.A.units+64<cLine):OpS X.K (rAny X (compareOp .In)) (oIn false):=zIw zPD (zXq (by omega))
 (zXo hu)
theorem zS4 (hu:X.A.units+64<cLine):OpS X.K (rAny X (compareOp .NotIn)) (oIn true):=zIw zKl (zPE (by omega))
 (zPC hu)
end
open PySem PySem.Spec PyProof.Rows
section
variable {X:Cx}
theorem zQ7 (hu:X.A.units+1<cLine):IxR X (fun x y H Q=>∃ a v,x=.ref a∧DGet H a y (some v)∧Q v H):=by
 intro value slice pins s σ H x y v u Q I rx ry h hs
 obtain ⟨a,z,rfl,g,q⟩:=h
 obtain rfl:v=Value.ref a:=rx
 have hT:=zM3 I g
 have h₂:wpAny (model X.prog X.w) X.A (getItem (.ref a) u) (EP X pins σ Q) X.xe s:=zQJ hu I g ry fun w' s3 I3 rw'=>⟨z,H,I3,rw',q⟩
 unfold subscriptTail
 refine wpAny_bind ?_
 rw [getitemInPython_of_ne hT.not_modules]
 refine wpAny_bind (wpAny_specialOf hT PySem.F.slot_dict_getitem.lookup ?_)
 have fin:wpAny (model X.prog X.w) X.A (subscripted slice false (.ref a) u) (fun r s₃=>wpAny (model X.prog X.w) X.A (letTemporaryGo value (.ref a) r >>= fun _=>pure r) (EP X pins σ Q) X.xe s₃) X.xe s:=by
  rw [hs]
  exact wpAny_operating (wpAny_mono h₂ (fun r s₃ h₃=>wpAny_bind (wpAny_letTemporaryGo (wpAny_pure h₃))) fun _ _ x=>x)
 exact wpAny_pure (wpAny_bind fin)
noncomputable def oIx:D→D→M D:=fun x i S=>match x with
 | .dct n=>match dictAt S n i with
  | some (some d)=>.ok d S
  | _=>.bad
 | .cd ks vs=>match i with
  | .tup xs=>match xs.mapM zER with
   | some k=>match valD (ks.zip vs) k with
    | some d=>.ok d S
    | none=>.bad
   | none=>.bad
  | _=>.bad
 | _=>match zJ5 S x,i with
  | some xs,.int j=>match atI xs j with
   | some d=>.ok d S
   | none=>.bad
  | _,_=>.bad
theorem RVs.at {K:W.Frag}{H:Hp}{μ:List Addr}{ds:List D}{vs:List V}{i:Int}{d:D} (r:RVs K H μ ds vs) (e:atI ds i=some d):∃ v,atI vs i=some v∧RV K H μ d v:=by
 unfold atI at e ⊢
 rw [← r.len]
 cases q:ixN ds.length i with
 | none=>rw [q] at e; cases e
 | some j =>
  rw [q] at e
  obtain ⟨v,e1,e2⟩:=r.get (i:=j) (d:=d) e
  exact ⟨v,e1,e2⟩
theorem zU6 {K:W.Frag}{H:Hp}{μ:List Addr}{ws:List (List Key × V)}{vs:List D} (r:RVs K H μ vs (ws.map (·.2))):RKs K H μ ((ws.map (·.1)).zip vs) ws:=by
 have hl:=r.len
 rw [qA2] at hl
 refine ⟨List.map_fst_zip (by simp [hl]),?_⟩
 have e:((ws.map (·.1)).zip vs).map (·.2)=vs:=qR0 (by simp [hl])
 rw [e]
 exact r
theorem za6 (hu:X.A.units+1<cLine):OpS X.K (zQa X) oIx:=by
 intro x y S d S' H μ v u Q e sr rx ry h
 unfold oIx at e
 split at e
 ·rename_i n
  split at e
  ·rename_i d' ho
   cases e
   unfold RV at rx
   obtain ⟨a,rfl,hm⟩:=rx
   obtain ⟨o,g,g1,_⟩:=zKL sr ho hm ry
   obtain ⟨w,rfl,rw'⟩:=g1 _ rfl
   exact ⟨_,zQ7 hu,a,w,rfl,g,h.self sr rw'⟩
  ·cases e
 ·rename_i ks vs
  split at e
  ·rename_i xs
   split at e
   ·rename_i k hk
    split at e
    ·rename_i d' hv
     cases e
     unfold RV at rx ry
     obtain ⟨a,o,ws,rfl,ha,rfl,rr⟩:=rx
     obtain ⟨b,us,rfl,hb,rb⟩:=ry
     have eu:=zJk hk rb
     subst eu
     obtain ⟨w,hw,rw'⟩:=(zU6 rr).val.1 _ hv
     exact ⟨_,zQ7 hu,a,w,rfl,.inr ⟨ws,k,b,.inr ⟨o,ha⟩,rfl,hb,hw.symm⟩,h.self sr rw'⟩
    ·cases e
   ·cases e
  ·cases e
 ·split at e
  ·rename_i xs j e1
   split at e
   ·rename_i d' e2
    cases e
    obtain ⟨a,vs,rfl,hq,rr⟩:=sr.seq rx e1
    obtain ⟨w,e3,rw'⟩:=rr.at e2
    unfold RV at ry
    subst ry
    rcases hq with hq | hq
    ·exact ⟨_,zUX,a,vs,j,w,rfl,rfl,hq,e3,h.self sr rw'⟩
    ·exact ⟨_,zXK,a,vs,j,w,rfl,rfl,hq,e3,h.self sr rw'⟩
   ·cases e
  ·cases e
noncomputable def cutD (xs:List D) (lo hi:Option Int):List D:=(xs.drop (HT.sIx xs.length 0 lo)).take (HT.sIx xs.length xs.length hi - HT.sIx xs.length 0 lo)
noncomputable def oSl:D→Option Int→Option Int→M D:=fun x lo hi S=>match x with
 | .tup xs=>.ok (.tup (cutD xs lo hi)) S
 | .lst n=>match zA6 S n with
  | some xs=>.ok (.lst S.length) (S++[.lst (cutD xs lo hi)])
  | none=>.bad
 | _=>.bad
theorem RVs.cut {K:W.Frag}{H:Hp}{μ:List Addr}{ds:List D}{vs:List V} (r:RVs K H μ ds vs) (lo hi:Option Int):RVs K H μ (cutD ds lo hi) (cutV vs lo hi):=by
 unfold cutD cutV
 rw [r.len]
 exact (r.drop _).take _
theorem zZq:SlS X.K (zPe X) oSl:=by
 intro x lo hi S d S' H μ v Q e sr rx h
 unfold oSl at e
 split at e
 ·cases e
  unfold RV at rx
  obtain ⟨p,vs,rfl,q,rr⟩:=rx
  exact ⟨_,zTO,p,vs,rfl,q,fun p2 H1 sm sq=>h.oldT sr sm sq (rr.cut lo hi)⟩
 ·split at e
  ·rename_i xs e1
   cases e
   unfold RV at rx
   obtain ⟨a,rfl,hm⟩:=rx
   obtain ⟨vs,q,rr⟩:=sr.sq hm e1
   exact ⟨_,zTP,a,vs,rfl,q,fun p hp=>h.newL sr hp (rr.cut lo hi)⟩
  ·cases e
 ·cases e
noncomputable def fLen:List D→M D:=fun xs S=>match xs with
 | [.str x]=>if x.length≤lim then .ok (.int x.length) S else .bad
 | [.dct n]=>.bad
 | [x]=>match zJ5 S x with
  | some ys=>.ok (.int ys.length) S
  | none=>.bad
 | _=>.bad
theorem RVs.one {K:W.Frag}{H:Hp}{μ:List Addr}{d:D}{vs:List V} (h:RVs K H μ [d] vs):∃ v,vs=[v]∧RV K H μ d v:=by
 obtain ⟨v,ws,rfl,r1,r2⟩:=h.cons_inv
 rw [r2.nil_inv]
 exact ⟨v,rfl,r1⟩
theorem RVs.two {K:W.Frag}{H:Hp}{μ:List Addr}{d e:D}{vs:List V} (h:RVs K H μ [d,e] vs):∃ v u,vs=[v,u]∧RV K H μ d v∧RV K H μ e u:=by
 obtain ⟨v,ws,rfl,r1,r2⟩:=h.cons_inv
 obtain ⟨u,rfl,r3⟩:=r2.one
 exact ⟨v,u,rfl,r1,r3⟩
theorem zYc:zFx X.K (cAny X (.builtin "len")) fLen:=by
 intro xs S d S' H μ vs Q e sr rx h
 unfold fLen at e
 split at e
 ·split at e
  ·rename_i hl; cases e
   obtain ⟨v,rfl,r⟩:=rx.one
   unfold RV at r; subst r
   exact ⟨_,zKX,_,rfl,zGc hl,h.self sr zBO⟩
  ·cases e
 ·cases e
 ·split at e
  ·rename_i ys e1
   cases e
   obtain ⟨v,rfl,r⟩:=rx.one
   obtain ⟨a,vs,rfl,hq,rr⟩:=sr.seq r e1
   exact ⟨_,zKY,a,vs,rfl,hq,by rw [← rr.len]; exact h.self sr zBO⟩
  ·cases e
 ·cases e
noncomputable def fMin:List D→M D:=fun xs S=>match xs with
 | [.int i,.int j]=>.ok (.int (if j<i then j else i)) S
 | _=>.bad
noncomputable def fMax:List D→M D:=fun xs S=>match xs with
 | [.int i,.int j]=>.ok (.int (if j>i then j else i)) S
 | _=>.bad
theorem zYa (hc:X.calm=true):zFx X.K (cAny X (.builtin "min")) fMin:=by
 intro xs S d S' H μ vs Q e sr rx h
 unfold fMin at e
 split at e
 ·cases e
  obtain ⟨v,u,rfl,r1,r2⟩:=rx.two
  unfold RV at r1 r2; subst r1 r2
  exact ⟨_,zQY hc,_,_,rfl,h.self sr zBO⟩
 ·cases e
theorem zYb (hc:X.calm=true):zFx X.K (cAny X (.builtin "max")) fMax:=by
 intro xs S d S' H μ vs Q e sr rx h
 unfold fMax at e
 split at e
 ·cases e
  obtain ⟨v,u,rfl,r1,r2⟩:=rx.two
  unfold RV at r1 r2; subst r1 r2
  exact ⟨_,zQZ hc,_,_,rfl,h.self sr zBO⟩
 ·cases e
noncomputable def zQx:List D→M D:=fun xs S=>match xs with
 | [x]=>match zJ5 S x with
  | some ys=>.ok (.lst S.length) (S++[.lst ys])
  | none=>.bad
 | _=>.bad
theorem zVg:zFx X.K (cAny X (.type "list")) zQx:=by
 intro xs S d S' H μ vs Q e sr rx h
 unfold zQx at e
 split at e
 ·split at e
  ·rename_i ys e1
   cases e
   obtain ⟨v,rfl,r⟩:=rx.one
   obtain ⟨a,vs,rfl,hq,rr⟩:=sr.seq r e1
   exact ⟨_,zKW,a,vs,rfl,hq,fun l hl=>h.newL sr hl rr⟩
  ·cases e
 ·cases e
noncomputable def zAh:List D→M D:=fun xs S=>match xs with
 | [.tup ys]=>.ok (.tup ys) S
 | [.lst n]=>match zA6 S n with
  | some ys=>.ok (.tup ys) S
  | none=>.bad
 | _=>.bad
theorem zSH:zFx X.K (cAny X (.type "tuple")) zAh:=by
 intro xs S d S' H μ vs Q e sr rx h
 unfold zAh at e
 split at e
 ·cases e
  obtain ⟨v,rfl,r⟩:=rx.one
  have r':=r
  unfold RV at r'; obtain ⟨p,ws,rfl,q,rr⟩:=r'
  exact ⟨_,zFn,p,ws,rfl,.inr ⟨SqT.of q,h.self sr r⟩⟩
 ·split at e
  ·rename_i ys e1
   cases e
   obtain ⟨v,rfl,r⟩:=rx.one
   unfold RV at r; obtain ⟨a,rfl,hm⟩:=r
   obtain ⟨ws,q,rr⟩:=sr.sq hm e1
   exact ⟨_,zFn,a,ws,rfl,.inl ⟨q,fun l hl=>h.newT sr hl rr⟩⟩
  ·cases e
 ·cases e
noncomputable def fInt:List D→M D:=fun xs S=>match xs with
 | [.int i]=>.ok (.int i) S
 | [.bl b]=>.ok (.int (if b then 1 else 0)) S
 | _=>.bad
theorem zYd:zFx X.K (cAny X (.type "int")) fInt:=by
 intro xs S d S' H μ vs Q e sr rx h
 unfold fInt at e
 split at e
 ·cases e
  obtain ⟨v,rfl,r⟩:=rx.one
  unfold RV at r; subst r
  exact ⟨_,zL0,.inl ⟨_,rfl,h.self sr zBO⟩⟩
 ·cases e
  obtain ⟨v,rfl,r⟩:=rx.one
  unfold RV at r; subst r
  exact ⟨_,zL0,.inr ⟨_,rfl,h.self sr zBO⟩⟩
 ·cases e
noncomputable def zM4 (S:zA0) (n:Nat):Option String:=match S[n]? with
 | some (.dk _)=>some "dict"
 | _=>none
noncomputable def zNX (S:zA0):D→Option String
 | .non=>some "NoneType"
 | .bl _=>some "bool"
 | .int _=>some "int"
 | .str _=>some "str"
 | .tup _=>some "tuple"
 | .lst n=>if (zA6 S n).isSome then some "list" else none
 | .dct n=>zM4 S n
 | _=>none
noncomputable def zC3:List D→M D:=fun xs S=>match xs with
 | [x,.ty T]=>match zNX S x with
  | some t=>if T∈["bool","int","tuple","list","str","dict"] then .ok (.bl (kOf t T)) S else .bad
  | none=>.bad
 | _=>.bad
theorem zUU {K:W.Frag}{H:Hp}{μ:List Addr}{S:zA0}{x:D}{v:V}{t:String} (sr:SR K μ S H) (e:zNX S x=some t) (r:RV K H μ x v):Ty2 K H v t∧t∈["NoneType","bool","int","str","tuple","list","dict"]:=by
 cases x with
 | non=>cases e; unfold RV at r; subst r; exact ⟨.non,by decide⟩
 | bl b=>cases e; unfold RV at r; subst r; exact ⟨.bl b,by decide⟩
 | int i=>cases e; unfold RV at r; subst r; exact ⟨.int i,by decide⟩
 | str i=>cases e; unfold RV at r; subst r; exact ⟨.str i,by decide⟩
 | tup xs=>cases e; unfold RV at r; obtain ⟨p,vs,rfl,q,_⟩:=r; exact ⟨.tup (SqT.of q),by decide⟩
 | lst n =>
  have e:(if (zA6 S n).isSome then some "list" else none)=some t:=e
  split at e
  ·rename_i hs
   cases e
   obtain ⟨xs,hx⟩:=qJ7.mp hs
   unfold RV at r; obtain ⟨a,rfl,hm⟩:=r
   obtain ⟨vs,q,_⟩:=sr.sq hm hx
   exact ⟨.lst q,by decide⟩
  ·cases e
 | dct n =>
  have e:zM4 S n=some t:=e
  unfold zM4 at e
  split at e
  ·rename_i kvs ho
   cases e
   unfold RV at r; obtain ⟨a,rfl,hm⟩:=r
   obtain ⟨ws,hw,_⟩:=sr.get hm ho
   exact ⟨.dk hw,by decide⟩
  ·cases e
 | ty n=>cases e
 | rol n=>cases e
 | cd _ _=>cases e
theorem zVh:zFx X.K (cAny X (.builtin "isinstance")) zC3:=by
 intro xs S d S' H μ vs Q e sr rx h
 unfold zC3 at e
 split at e
 ·rename_i x T
  split at e
  ·rename_i t e1
   split at e
   ·rename_i hT
    cases e
    obtain ⟨v,u,rfl,r1,r2⟩:=rx.two
    unfold RV at r2; subst r2
    obtain ⟨k1,k2⟩:=zUU sr e1 r1
    exact ⟨_,zKZ,v,t,T,_,rfl,k1,zSk X.K t k2 T hT,h.self sr zDY⟩
   ·cases e
  ·cases e
 ·cases e
noncomputable def zHI:List D→Option (List Bool)
 | []=>some []
 | .bl b::r=>(zHI r).map (b::·)
 | _::_=>none
theorem zIO {K:W.Frag}{H:Hp}{μ:List Addr}:∀ {ds:List D}{ns:List Bool}{vs:List V},zHI ds=some ns→RVs K H μ ds vs→vs=ns.map V.bl
 | [],ns,vs,e,r=>by cases e; rw [r.nil_inv]; rfl
 | .bl i::ds,ns,vs,e,r=>by
  obtain ⟨v,ws,rfl,r1,r2⟩:=r.cons_inv
  unfold zHI at e
  cases q:zHI ds with
  | none=>rw [q] at e; cases e
  | some ms =>
   rw [q] at e; cases e
   unfold RV at r1; subst r1
   rw [zIO q r2]; rfl
 | .non::ds,ns,vs,e,r=>by cases e
 | .int _::ds,ns,vs,e,r=>by cases e
 | .str _::ds,ns,vs,e,r=>by cases e
 | .ty _::ds,ns,vs,e,r=>by cases e
 | .tup _::ds,ns,vs,e,r=>by cases e
 | .lst _::ds,ns,vs,e,r=>by cases e
 | .dct _::ds,ns,vs,e,r=>by cases e
 | .rol _::ds,ns,vs,e,r=>by cases e
 | .cd _ _::ds,ns,vs,e,r=>by cases e
noncomputable def zEF (g:List Bool→Bool):List D→M D:=fun xs S=>match xs with
 | [.tup ys]=>match zGf ys with
  | some ns=>.ok (.bl (g (ns.map (· != 0)))) S
  | none=>.bad
 | [.lst n]=>match (zA6 S n).bind zHI with
  | some bs=>.ok (.bl (g bs)) S
  | none=>.bad
 | _=>.bad
theorem zNl {id:String}{g:List Bool→Bool} (hr:zCw X (.builtin id) (fun vs H Q=>∃ (p:Addr) (bs:List Bool),vs=[.ref p]∧SqL X.K H p (bs.map V.bl)∧Q (.bl (g bs)) H)) (hr2:zCw X (.builtin id) (fun vs H Q=>∃ (p:Addr) (ns:List Int),vs=[.ref p]∧SqT X.K H p (ns.map V.int)∧Q (.bl (g (ns.map (· != 0)))) H)):zFx X.K (cAny X (.builtin id)) (zEF g):=by
 intro xs S d S' H μ vs Q e sr rx h
 unfold zEF at e
 split at e
 ·split at e
  ·rename_i ns e1
   cases e
   obtain ⟨v,rfl,r⟩:=rx.one
   unfold RV at r; obtain ⟨a,ws,rfl,q,rr⟩:=r
   have z:=zHh e1 rr
   subst z
   exact ⟨_,hr2,a,ns,rfl,SqT.of q,h.self sr zDY⟩
  ·cases e
 ·split at e
  ·rename_i bs e1
   cases e
   obtain ⟨ys,e2,e3⟩:=qA3.mp e1
   obtain ⟨v,rfl,r⟩:=rx.one
   unfold RV at r; obtain ⟨a,rfl,hm⟩:=r
   obtain ⟨ws,q,rr⟩:=sr.sq hm e2
   have z:=zIO e3 rr
   subst z
   exact ⟨_,hr,a,bs,rfl,q,h.self sr zDY⟩
  ·cases e
 ·cases e
theorem zCw.imp {f:Value}{r r':List V→Hp→VK→Prop} (h:zCw X f r) (w:∀ vs H Q,r' vs H Q→r vs H Q):zCw X f r':=fun pins s σ H xs us Q I rv q=>h pins s σ H xs us Q I rv (w _ _ _ q)
theorem zYf (hc:X.calm=true):zFx X.K (cAny X (.builtin "all")) (zEF fun bs=>bs.all id):=zNl (zR3 hc) ((zR2 hc).imp fun vs H Q ⟨p,ns,h1,h2,h3⟩=>⟨p,ns,h1,h2,by rw [qN9] at h3; exact h3⟩)
theorem zYe (hc:X.calm=true):zFx X.K (cAny X (.builtin "any")) (zEF fun bs=>bs.any id):=zNl (zR1 hc) ((zR0 hc).imp fun vs H Q ⟨p,ns,h1,h2,h3⟩=>⟨p,ns,h1,h2,by rw [qO0] at h3; exact h3⟩)
noncomputable def insI (a:Int):List Int→List Int
 | []=>[a]
 | b::r=>if a≤b then a::b::r else b::insI a r
noncomputable def zI0:List Int→List Int
 | []=>[]
 | a::r=>insI a (zI0 r)
theorem zHj (a:Int):∀ l,(insI a l).Perm (a::l)
 | []=>.refl _
 | b::r=>by
  unfold insI
  split
  ·exact .refl _
  ·exact ((zHj a r).cons b).trans (.swap _ _ _)
theorem zIA:∀ l,(zI0 l).Perm l
 | []=>.refl _
 | a::r=>(zHj a _).trans ((zIA r).cons a)
theorem zHi (a:Int):∀ l:List Int,l.Pairwise (·≤·)→(insI a l).Pairwise (·≤·)
 | [],_=>by simp [insI]
 | b::r,h=>by
  have h':=qI2.mp h
  unfold insI
  split
  ·rename_i hab
   refine qI2.mpr ⟨fun c hc=>?_,h⟩
   rcases qB7.mp hc with rfl | hc
   ·exact hab
   ·exact qK7 hab (h'.1 c hc)
  ·rename_i hab
   refine qI2.mpr ⟨fun c hc=>?_,zHi a r h'.2⟩
   rcases qB7.mp ((zHj a r).mem_iff.mp hc) with rfl | hc
   ·omega
   ·exact h'.1 c hc
theorem zGd:∀ l:List Int,(zI0 l).Pairwise (·≤·)
 | []=>.nil
 | a::r=>zHi a _ (zGd r)
theorem zGI {l m:List Int} (h:m.Perm l) (s:m.Pairwise (·≤·)):m=zI0 l :=
 (h.trans (zIA l).symm).eq_of_pairwise (fun a b _ _ h1 h2=>qO4 h1 h2) s (zGd l)
noncomputable def zQl:List (Key × D)→Option (List Int)
 | []=>some []
 | (.inl n,_)::r=>(zQl r).map (n::·)
 | _::_=>none
theorem zKx:∀ {kvs:List (Key × D)}{ns:List Int},zQl kvs=some ns→kvs.map (·.1)=ns.map Sum.inl
 | [],ns,e=>by cases e; rfl
 | (.inl n,d)::r,ns,e=>by
  obtain ⟨ms,e1,e2⟩:=qA1.mp e
  subst e2
  simp [zKx e1]
 | (.inr x,d)::r,ns,e=>by cases e
noncomputable def zCL:List D→M D:=fun xs S=>match xs with
 | [.lst n]=>match (zA6 S n).bind zGf with
  | some ns=>if ns.length<64 then .ok (.lst S.length) (S++[.lst ((zI0 ns).map D.int)]) else .bad
  | none=>.bad
 | [.dct n]=>match S[n]? with
  | some (.dk kvs)=>match zQl kvs with
   | some ns=>if ns.length<64 then .ok (.lst S.length) (S++[.lst ((zI0 ns).map D.int)]) else .bad
   | none=>.bad
  | _=>.bad
 | _=>.bad
theorem zQM (hc:X.calm=true):zFx X.K (cAny X (.builtin "sorted")) zCL:=by
 intro xs S d S' H μ vs Q e sr rx h
 unfold zCL at e
 split at e
 ·split at e
  ·rename_i ns e1
   split at e
   ·rename_i hl
    cases e
    obtain ⟨ys,e2,e3⟩:=qA3.mp e1
    obtain ⟨v,rfl,r⟩:=rx.one
    unfold RV at r; obtain ⟨a,rfl,hm⟩:=r
    obtain ⟨ws,q,rr⟩:=sr.sq hm e2
    have z:=zHh e3 rr
    subst z
    refine ⟨_,zKU,a,ns,rfl,q,hl,fun l ms hl hp hs=>?_⟩
    rw [zGI hp hs]
    exact h.newL sr hl RVs.ints
   ·cases e
  ·cases e
 ·split at e
  ·rename_i kvs e1
   split at e
   ·rename_i ns e2
    split at e
    ·rename_i hl
     cases e
     obtain ⟨v,rfl,r⟩:=rx.one
     unfold RV at r; obtain ⟨a,rfl,hm⟩:=r
     obtain ⟨ws,hw,rr⟩:=sr.get hm e1
     refine ⟨_,zKV hc,a,ws,ns,rfl,hw,by rw [← rr.1]; exact zKx e2,hl,fun l ms hl hp hs=>?_⟩
     rw [zGI hp hs]
     exact h.newL sr hl RVs.ints
    ·cases e
   ·cases e
  ·cases e
 ·cases e
def MtS (K:W.Frag) (T:String) (r:V→List V→Hp→VK→Prop) (o:D→List D→M D):Prop:=∀ x xs S d S' H μ v vs Q,o x xs S=.ok d S'→SR K μ S H→RV K H μ x v→RVs K H μ xs vs→Yld K μ H d S' Q→r v vs H Q
noncomputable def tyOk (T:String) (x:D) (S:zA0):Bool:=match x with
 | .lst n=>decide (T = "list")&&(zA6 S n).isSome
 | .dct n=>decide (T = "dict")&&(match S[n]? with | some (.dk _)=>true | some (.dt _)=>true | _=>false)
 | .int _=>decide (T = "int")
 | .str _=>decide (T = "str")
 | _=>false
theorem zVU {K:W.Frag}{H:Hp}{μ:List Addr}{S:zA0}{T:String}{x:D}{v:V} (sr:SR K μ S H) (h:tyOk T x S=true) (r:RV K H μ x v):tyV K T v H:=by
 unfold tyOk at h
 split at h
 ·simp only [qC7,decide_eq_true_eq] at h
  obtain ⟨h1,h2⟩:=h
  obtain ⟨xs,hx⟩:=qJ7.mp h2
  unfold RV at r; obtain ⟨a,rfl,hm⟩:=r
  obtain ⟨vs,q,_⟩:=sr.sq hm hx
  exact .inl ⟨h1,vs,q⟩
 ·simp only [qC7,decide_eq_true_eq] at h
  obtain ⟨h1,h2⟩:=h
  unfold RV at r; obtain ⟨a,rfl,hm⟩:=r
  split at h2
  ·rename_i kvs ho
   obtain ⟨ws,q,_⟩:=sr.get hm ho
   exact .inr (.inr (.inl ⟨h1,.inl ⟨ws,q⟩⟩))
  ·rename_i kvs ho
   obtain ⟨ws,q,_⟩:=sr.get hm ho
   exact .inr (.inr (.inl ⟨h1,.inr ⟨ws,q⟩⟩))
  ·cases h2
 ·unfold RV at r; subst r
  exact (of_decide_eq_true h:T = "int")
 ·unfold RV at r; subst r
  exact (of_decide_eq_true h:T = "str")
 ·cases h
noncomputable def zG1 (T:String) (o:D→List D→M D) (a:C) (as:CA):C:=fun ρ=>bnd (a ρ) fun x S=>if tyOk T x S then bnd (as ρ) (fun xs=>o x xs) S else .bad
variable {o e:Expr}{es:List Expr}{co:C}{ca:CA}{name:Str}{apos cpos:Pos}{T id:String}{m:D→List D→M D}
theorem zLq (pa:PlainAttrs T) (slot:Slot T name id) (hty:typeOf (.builtin id)=pure (.type "method_descriptor")) (hm:MtS X.K T (zH9 X id) m) (ho:PE X o (tOf X.K co)) (ha:PA X (e::es) (tOfA X.K ca))
  (hbase:attributeBase o name X.env (eval o X.env)=eval o X.env)
  (hfew:((backTo cpos (starEach (e::es) X.env)).all (fun x=>!x.1)&&(backToKw cpos (keywordEach [] X.env)).all (fun x=>x.1.isSome)
   && decide ((e::es).length+([]:List Keyword).length+(if ([]:List Keyword).isEmpty then 0 else 1)<30))=true)
  (hline:(apos.endLine == cpos.line)=true) (hs:starEach (e::es) X.env=(false,eval e X.env)::starEach es X.env) (hplain:(backTo cpos (starEach es X.env)).any (·.1)=false) :
  PE X (.Call (.Attribute o name apos) (e::es) [] cpos) (tOf X.K (zG1 T m co ca)):=(zZY pa slot hty zau ho ha hbase hfew hline hs hplain).weak (by
 rintro σ H Q ⟨μ,ρ,S,d,S',sr,re,e,y⟩
 obtain ⟨x,S1,e1,e⟩:=zAb e
 split at e
 ·rename_i hk
  obtain ⟨xs,S2,e2,e⟩:=zAb e
  refine ⟨μ,ρ,S,x,S1,sr,re,e1,fun v H1 μ1 sr1 st1 r1=>⟨zVU sr1 hk r1,μ1,ρ,S1,xs,S2,sr1,re.up st1,e2,fun vs H2 μ2 sr2 st2 r2=>?_⟩⟩
  exact hm x xs S2 d S' H2 μ2 v vs Q e sr2 (RV.up st2.tk st2.ext _ _ r1) r2 (y.shift (st1.trans st2 sr2.nd))
 ·cases e)
noncomputable def zDz (g:List D→List D→Option (List D × D)):D→List D→M D:=fun x xs S=>match x with
 | .lst n=>match S[n]? with
  | some (.lst ys)=>match g ys xs with
   | some (zs,d)=>.ok d (S.set n (.lst zs))
   | none=>.bad
  | _=>.bad
 | _=>.bad
theorem SR.putL {K:W.Frag}{H:Hp}{μ:List Addr}{S:zA0}{n:Nat}{p:Addr}{vs ws:List V}{zs:List D} (sr:SR K μ S H) (hn:μ[n]?=some p) (hp:H p=some (.lst vs)) (r:RVs K H μ zs ws):SR K μ (S.set n (.lst zs)) (upd H p (.lst ws))∧Step K μ μ H (upd H p (.lst ws)) :=
 sr.put hn hp (fun _ z=>by cases z) (fun _ _ z=>by cases z) ⟨ws,zAV,RVs.up (zMF hp) ⟨[],by simp⟩ _ _ r⟩
theorem zPU {g:List D→List D→Option (List D × D)}
  (h:∀ (K:W.Frag) H μ ys xs zs d vs us,g ys xs=some (zs,d)→RVs K H μ ys vs→RVs K H μ xs us→∃ ws w,RVs K H μ zs ws∧RV K H μ d w∧∀ (p:Addr) (Q:VK),H p=some (.lst vs)→Q w (upd H p (.lst ws))→zH9 X id (.ref p) us H Q):MtS X.K "list" (zH9 X id) (zDz g):=by
 intro x xs S d S' H μ v us Q e sr rx rs y
 unfold zDz at e
 split at e
 ·rename_i n
  split at e
  ·rename_i ys ho
   split at e
   ·rename_i zs d' hg
    cases e
    unfold RV at rx; obtain ⟨p,rfl,hm⟩:=rx
    obtain ⟨vs,hp,rr⟩:=sr.lst hm ho
    obtain ⟨ws,w,r1,r2,fin⟩:=h X.K H μ ys xs zs d vs us hg rr rs
    obtain ⟨s1,s2⟩:=sr.putL hm hp r1
    exact fin p Q hp (y w _ μ s1 s2 (RV.up s2.tk s2.ext _ _ r2))
   ·cases e
  ·cases e
 ·cases e
noncomputable def zC2:List D→List D→Option (List D × D):=fun ys xs=>match xs with
 | [x]=>if ys.length<lim then some (ys++[x],.non) else none
 | _=>none
theorem zPX:MtS X.K "list" (zH9 X "list.append") (zDz zC2):=zPU fun K H μ ys xs zs d vs us e r1 r2=>by
 unfold zC2 at e
 split at e
 ·split at e
  ·rename_i hl; cases e
   obtain ⟨v,rfl,r3⟩:=r2.one
   exact ⟨vs++[v],.non,r1.append (.cons r3 .nil),zGX,fun p Q hp q=>⟨_,zKo,p,vs,v,rfl,rfl,hp,by rw [← r1.len]; exact zPZ hl,q⟩⟩
  ·cases e
 ·cases e
noncomputable def zDC:List D→List D→Option (List D × D):=fun ys xs=>match xs with
 | [.int i,x]=>if ys.length<1000∧0≤i∧i.toNat≤ys.length then some (ys.take i.toNat++x::ys.drop i.toNat,.non) else none
 | _=>none
theorem zPV:MtS X.K "list" (zH9 X "list.insert") (zDz zDC):=zPU fun K H μ ys xs zs d vs us e r1 r2=>by
 unfold zDC at e
 split at e
 ·rename_i i x
  split at e
  ·rename_i hl; cases e
   obtain ⟨h1,h2,h3⟩:=hl
   obtain ⟨v,u,rfl,r3,r4⟩:=r2.two
   unfold RV at r3; subst r3
   have ei:i=((i.toNat:Nat):Int):=by omega
   exact ⟨vs.take i.toNat++u::vs.drop i.toNat,.non,(r1.take _).append (.cons r4 (r1.drop _)),zGX,fun p Q hp q=>⟨_,zPS,p,vs,i.toNat,u,rfl,by rw [← ei],hp,by rw [← r1.len]; exact h1,by rw [← r1.len]; exact h3,q⟩⟩
  ·cases e
 ·cases e
noncomputable def zCK:D→List D→M D:=fun x xs S=>match x,xs with
 | .lst n,[.lst k]=>match S[n]?,S[k]? with
  | some (.lst ys),some (.lst zs)=>if ys.length+zs.length≤lim then .ok .non (S.set n (.lst (ys++zs))) else .bad
  | _,_=>.bad
 | .lst n,[.tup zs]=>match S[n]? with
  | some (.lst ys)=>if ys.length+zs.length≤lim then .ok .non (S.set n (.lst (ys++zs))) else .bad
  | _=>.bad
 | _,_=>.bad
theorem zPW:MtS X.K "list" (zH9 X "list.extend") zCK:=by
 intro x xs S d S' H μ v us Q e sr rx rs y
 unfold zCK at e
 split at e
 ·split at e
  ·rename_i ys zs o1 o2
   split at e
   ·rename_i hl
    cases e
    unfold RV at rx; obtain ⟨p,rfl,m1⟩:=rx
    obtain ⟨u,rfl,r2⟩:=rs.one
    unfold RV at r2; obtain ⟨p2,rfl,m2⟩:=r2
    obtain ⟨vs,h1,r1⟩:=sr.lst m1 o1
    obtain ⟨ws,h2,r3⟩:=sr.lst m2 o2
    obtain ⟨s1,s2⟩:=sr.putL m1 h1 (r1.append r3)
    exact ⟨_,zPT,p,p2,vs,ws,rfl,rfl,h1,h2,by rw [← r1.len,← r3.len]; exact zGc hl,y _ _ μ s1 s2 zGX⟩
   ·cases e
  ·cases e
 ·split at e
  ·rename_i ys o1
   split at e
   ·rename_i hl
    cases e
    unfold RV at rx; obtain ⟨p,rfl,m1⟩:=rx
    obtain ⟨u,rfl,r2⟩:=rs.one
    unfold RV at r2; obtain ⟨p2,ws,rfl,h2,r3⟩:=r2
    obtain ⟨vs,h1,r1⟩:=sr.lst m1 o1
    obtain ⟨s1,s2⟩:=sr.putL m1 h1 (r1.append r3)
    exact ⟨_,zUO,p,p2,vs,ws,rfl,rfl,h1,SqT.of h2,by rw [← r1.len,← r3.len]; exact zGc hl,y _ _ μ s1 s2 zGX⟩
   ·cases e
  ·cases e
 ·cases e
noncomputable def oSet:D→D→D→zA0→Option zA0:=fun x i v S=>match x with
 | .lst n=>match S[n]?,i with
  | some (.lst ys),.int k=>match ixN ys.length k with
   | some j=>some (S.set n (.lst (ys.set j v)))
   | none=>none
  | _,_=>none
 | .dct n=>match S[n]?,zER i with
  | some (.dk kvs),some k=>if kvs.length<lim then some (S.set n (.dk (putD kvs k v))) else none
  | _,_=>none
 | _=>none
theorem zRC (hu:X.A.units+1<cLine):PSet X (fun o i v H Q=>∃ a H4,o=.ref a∧DPut H a i v H4∧Q H4):=by
 intro pins s σ H o i v ov iv u Q I ro ri rv h
 obtain ⟨a,H4,rfl,g,q⟩:=h
 obtain rfl:ov=Value.ref a:=ro
 exact zQI hu I g ri rv fun s4 I4=>⟨H4,I4,q⟩
theorem zUf (hu:X.A.units+1<cLine) {x i v:D}{S S':zA0}{H:Hp}{μ:List Addr}{ov iv vv:V}{Q:Hp→Prop} (e:oSet x i v S=some S') (sr:SR X.K μ S H) (rx:RV X.K H μ x ov) (ri:RV X.K H μ i iv) (rv:RV X.K H μ v vv) (y:∀ H' ,SR X.K μ S' H'→Step X.K μ μ H H'→Q H'):zPh X ov iv vv H Q:=by
 unfold oSet at e
 split at e
 ·split at e
  ·rename_i ys k ho
   split at e
   ·rename_i j hj
    cases e
    unfold RV at rx ri; obtain ⟨p,rfl,hm⟩:=rx; subst ri
    obtain ⟨vs,hp,rr⟩:=sr.lst hm ho
    obtain ⟨s1,s2⟩:=sr.putL hm hp (rr.set rv j)
    exact ⟨_,zRB,p,vs,k,j,rfl,rfl,hp,by rw [← rr.len]; exact hj,y _ s1 s2⟩
   ·cases e
  ·cases e
 ·split at e
  ·rename_i kvs k ho hk
   split at e
   ·rename_i hl
    cases e
    unfold RV at rx; obtain ⟨p,rfl,hm⟩:=rx
    obtain ⟨ws,hp,rr⟩:=sr.get hm ho
    have z:=zJl hk ri
    subst z
    have tk:TF X.K H (upd H p (.dK (putK ws k vv))):=zME hp (fun _ z=>by cases z) (fun _ _ z=>by cases z)
    obtain ⟨s1,s2⟩:=sr.put (o:=.dK (putK ws k vv)) (o':=.dk (putD kvs k v)) hm hp (fun _ z=>by cases z) (fun _ _ z=>by cases z) ⟨_,zAV,(rr.put rv).up tk ⟨[],by simp⟩⟩
    exact ⟨_,zRC hu,p,_,rfl,DPut.k hp (by rw [← rr.len]; exact zPZ hl),y _ s1 s2⟩
   ·cases e
  ·cases e
 ·cases e
end
open PySem PySem.Spec PyProof.Rows
inductive RS where
 | bad | nx (ρ:Env1) (S:zA0) | rt (d:D) (S:zA0) | bk (ρ:Env1) (S:zA0) | ct (ρ:Env1) (S:zA0) | er (c:Str) (S:zA0)
noncomputable abbrev CS:=Env1→zA0→RS
noncomputable def zLd (X:Cx) (μ:List Addr) (H:Hp) (E:Ends):RS→Prop
 | .bad=>False
 | .er _ _=>False
 | .nx ρ' S'=>∀ σ' H' μ',SR X.K μ' S' H'→Step X.K μ μ' H H'→RE X.K H' μ' ρ' σ'→E.nx σ' H'
 | .bk ρ' S'=>∀ σ' H' μ',SR X.K μ' S' H'→Step X.K μ μ' H H'→RE X.K H' μ' ρ' σ'→E.bk σ' H'
 | .ct ρ' S'=>∀ σ' H' μ',SR X.K μ' S' H'→Step X.K μ μ' H H'→RE X.K H' μ' ρ' σ'→E.ct σ' H'
 | .rt d S'=>Yld X.K μ H d S' E.rt
inductive tOfS (X:Cx) (c:CS) (E:Ends) (σ:St) (H:Hp):Prop
 | mk (μ:List Addr) (ρ:Env1) (S:zA0) (sr:SR X.K μ S H) (re:RE X.K H μ ρ σ) (y:zLd X μ H E (c ρ S))
theorem zLd.shift {X:Cx}{μ μ1:List Addr}{H H1:Hp}{E:Ends}{r:RS} (h:zLd X μ H E r) (st:Step X.K μ μ1 H H1):zLd X μ1 H1 E r:=by
 cases r with
 | bad=>exact h
 | er _ _=>exact h
 | nx ρ S=>exact fun σ' H' μ' sr s2 re=>h σ' H' μ' sr (st.trans s2 sr.nd) re
 | bk ρ S=>exact fun σ' H' μ' sr s2 re=>h σ' H' μ' sr (st.trans s2 sr.nd) re
 | ct ρ S=>exact fun σ' H' μ' sr s2 re=>h σ' H' μ' sr (st.trans s2 sr.nd) re
 | rt d S=>exact Yld.shift h st
noncomputable def zA5:CS:=fun ρ S=>.nx ρ S
noncomputable def sBrk:CS:=fun ρ S=>.bk ρ S
noncomputable def sCnt:CS:=fun ρ S=>.ct ρ S
noncomputable def sBad:CS:=fun _ _=>.bad
noncomputable def zU4:CS:=fun _ S=>.rt .non S
noncomputable def sRet (c:C):CS:=fun ρ S=>match c ρ S with
 | .ok d S'=>.rt d S'
 | .bad=>.bad
 | .er _ _=>.bad
noncomputable def zDX (c:C):CS:=fun ρ S=>match c ρ S with
 | .ok _ S'=>.nx ρ S'
 | .bad=>.bad
 | .er _ _=>.bad
noncomputable def sSeq (a b:CS):CS:=fun ρ S=>match a ρ S with
 | .nx ρ' S'=>b ρ' S'
 | r=>r
noncomputable def sIf (t:CT) (a b:CS):CS:=fun ρ S=>match t ρ S with
 | .ok k S'=>if k then a ρ S' else b ρ S'
 | .bad=>.bad
 | .er _ _=>.bad
noncomputable abbrev G:=D→Env1→M Env1
noncomputable def sAsg (c:C) (g:G):CS:=fun ρ S=>match c ρ S with
 | .ok d S'=>match g d ρ S' with
  | .ok ρ' S2=>.nx ρ' S2
  | .bad=>.bad
  | .er _ _=>.bad
 | .bad=>.bad
 | .er _ _=>.bad
section
variable {X:Cx}{e a b tg:Expr}{ce ca cb:C}{pos:Pos}
theorem zTJ:PS X (.Pass pos) (tOfS X zA5):=zUh.weak fun E σ H ⟨μ,ρ,S,sr,re,p⟩=>p σ H μ sr (Step.refl _ _ _) re
theorem zWe:PS X (.Break pos) (tOfS X sBrk):=zRS.weak fun E σ H ⟨μ,ρ,S,sr,re,p⟩=>p σ H μ sr (Step.refl _ _ _) re
theorem zWd:PS X (.Continue pos) (tOfS X sCnt):=zLv.weak fun E σ H ⟨μ,ρ,S,sr,re,p⟩=>p σ H μ sr (Step.refl _ _ _) re
theorem zWf {st:Stmt}:PS X st (tOfS X sBad):=zRR.weak fun E σ H ⟨μ,ρ,S,sr,re,p⟩=>p
theorem zTI:PS X (.Return none pos) (tOfS X zU4):=zUg.weak fun E σ H ⟨μ,ρ,S,sr,re,p⟩=>p _ H μ sr (Step.refl _ _ _) zGX
theorem zWb (he:PE X e (tOf X.K ce)):PS X (.Return (some e) pos) (tOfS X (sRet ce)):=(zWJ he).weak (by
 rintro E σ H ⟨μ,ρ,S,sr,re,p⟩
 unfold sRet at p
 split at p
 ·rename_i d S' h
  exact ⟨μ,ρ,S,d,S',sr,re,h,p⟩
 ·exact False.elim p
 ·exact False.elim p)
theorem zTK (he:PE X e (tOf X.K ce)) (hs:swapsWith e none pos.line X.env=pure false):PS X (.Expr e pos) (tOfS X (zDX ce)):=(zUi he hs).weak (by
 rintro E σ H ⟨μ,ρ,S,sr,re,p⟩
 unfold zDX at p
 split at p
 ·rename_i d S' h
  exact ⟨μ,ρ,S,d,S',sr,re,h,fun v H1 μ1 sr1 st1 r1=>p σ H1 μ1 sr1 st1 (re.up st1)⟩
 ·exact False.elim p
 ·exact False.elim p)
theorem zTH:PSs X [] (tOfS X zA5):=zUe.weak fun E σ H ⟨μ,ρ,S,sr,re,p⟩=>p σ H μ sr (Step.refl _ _ _) re
theorem zRw {st:Stmt}{rest:List Stmt}{c1 c2:CS} (h1:PS X st (tOfS X c1)) (h2:PSs X rest (tOfS X c2)):PSs X (st::rest) (tOfS X (sSeq c1 c2)):=(zRP h1 h2).weak (by
 rintro E σ H ⟨μ,ρ,S,sr,re,p⟩
 refine ⟨μ,ρ,S,sr,re,?_⟩
 unfold sSeq at p
 revert p
 cases c1 ρ S with
 | nx ρ' S'=>exact fun p σ' H' μ' sr' st' re'=>⟨μ',ρ',S',sr',re',p.shift st'⟩
 | bad=>exact fun p=>p
 | er _ _=>exact fun p=>p
 | rt _ _=>exact fun p=>p
 | bk _ _=>exact fun p=>p
 | ct _ _=>exact fun p=>p)
theorem zZr {t:Expr}{ct:CT}{as bs:List Stmt}{c1 c2:CS} (ht:PT X t (tOfT X.K ct)) (h1:PSs X as (tOfS X c1)) (h2:PSs X bs (tOfS X c2)):PS X (.If t as bs pos) (tOfS X (sIf ct c1 c2)):=(zZN ht h1 h2).weak (by
 rintro E σ H ⟨μ,ρ,S,sr,re,p⟩
 unfold sIf at p
 split at p
 ·rename_i k S' h
  refine ⟨μ,ρ,S,k,S',sr,re,h,fun H1 μ1 sr1 st1=>?_⟩
  cases k with
  | true=>rw [if_pos rfl] at p ⊢; exact ⟨μ1,ρ,S',sr1,re.up st1,p.shift st1⟩
  | false=>rw [if_neg qA7] at p ⊢; exact ⟨μ1,ρ,S',sr1,re.up st1,p.shift st1⟩
 ·exact False.elim p
 ·exact False.elim p)
inductive tOfG (K:W.Frag) (g:G) (v:V) (σ:St) (H:Hp) (Q:St→Hp→Prop):Prop
 | mk (μ:List Addr) (ρ:Env1) (S:zA0) (d:D) (ρ':Env1) (S':zA0) (sr:SR K μ S H) (re:RE K H μ ρ σ) (rv:RV K H μ d v) (e:g d ρ S=.ok ρ' S') (y:∀ σ' H' μ',SR K μ' S' H'→Step K μ μ' H H'→RE K H' μ' ρ' σ'→Q σ' H')
theorem PG.weak {t t':TG} (h:PG X tg t) (w:∀ v σ H Q,t' v σ H Q→t v σ H Q):PG X tg t':=fun pins s σ H v u Q I r q=>h pins s σ H v u Q I r (w v σ H Q q)
noncomputable def gN (i:Nat):G:=fun d ρ S=>.ok (ρ.set i (some d)) S
theorem zTT {i:Nat}{x:Str} (h:PG X (.Name x pos) (zLR i)):PG X (.Name x pos) (tOfG X.K (gN i)):=h.weak (by
 rintro v σ H Q ⟨μ,ρ,S,d,ρ',S',sr,re,rv,e,y⟩
 unfold gN at e; cases e
 exact y _ H μ sr (Step.refl _ _ _) (re.set rv i))
noncomputable def gS (co ci:C):G:=fun d ρ=>bnd (co ρ) fun o=>bnd (ci ρ) fun i S=>match oSet o i d S with
 | some S'=>.ok ρ S'
 | none=>.bad
theorem zWm (hu:X.A.units+1<cLine) (ho:PE X a (tOf X.K ca)) (hi:PE X b (tOf X.K cb)) (ha:∀ v,assign (.Subscript a b pos) X.env v=(do
   let ov ← holding [v] (eval a X.env)
   let iv ← holding [v,ov] (eval b X.env)
   standAt pos
   holding [v,ov,iv] (setItem ov iv v)
   release [v,ov,iv] [])):PG X (.Subscript a b pos) (tOfG X.K (gS ca cb)):=(zWQ ho hi zWn ha).weak (by
 rintro v σ H Q ⟨μ,ρ,S,d,ρ',S',sr,re,rv,e,y⟩
 obtain ⟨x,S1,e1,e⟩:=zAb e
 obtain ⟨z,S2,e2,e⟩:=zAb e
 split at e
 ·rename_i S3 e3
  cases e
  refine ⟨μ,ρ,S,x,S1,sr,re,e1,fun ov H1 μ1 sr1 st1 r1=>⟨μ1,ρ,S1,z,S2,sr1,re.up st1,e2,fun iv H2 μ2 sr2 st2 r2=>?_⟩⟩
  have st12:=st1.trans st2 sr2.nd
  refine zUf hu e3 sr2 (RV.up st2.tk st2.ext _ _ r1) r2 (RV.up st12.tk st12.ext _ _ rv) fun H3 sr3 st3=>?_
  exact y σ H3 μ2 sr3 (st12.trans st3 sr3.nd) (re.up (st12.trans st3 sr3.nd))
 ·cases e)
noncomputable def gTs:List G→List D→Env1→M Env1
 | [],[]=>fun ρ=>ret ρ
 | g::gs,d::ds=>fun ρ=>bnd (g d ρ) fun ρ1=>gTs gs ds ρ1
 | _,_=>fun _=>bad
noncomputable def gT (gs:List G):G:=fun d ρ=>match d with
 | .tup xs=>gTs gs xs ρ
 | .lst n=>fun S=>match zA6 S n with
  | some xs=>gTs gs xs ρ S
  | none=>.bad
 | _=>bad
inductive zP4 (K:W.Frag) (gs:List G) (vs:List V) (σ:St) (H:Hp) (Q:St→Hp→Prop):Prop
 | mk (μ:List Addr) (ρ:Env1) (S:zA0) (ds:List D) (ρ':Env1) (S':zA0) (sr:SR K μ S H) (re:RE K H μ ρ σ) (rv:RVs K H μ ds vs) (e:gTs gs ds ρ S=.ok ρ' S') (y:∀ σ' H' μ',SR K μ' S' H'→Step K μ μ' H H'→RE K H' μ' ρ' σ'→Q σ' H')
theorem PGs.weak {es:List Expr}{t t':TGs} (h:PGs X es t) (w:∀ v σ H Q,t' v σ H Q→t v σ H Q):PGs X es t':=fun pins s σ H v u Q I r q=>h pins s σ H v u Q I r (w v σ H Q q)
theorem zTS:PGs X [] (zP4 X.K []):=zPx.weak (by
 rintro v σ H Q ⟨μ,ρ,S,ds,ρ',S',sr,re,rv,e,y⟩
 cases ds with
 | nil =>
  obtain ⟨rfl,rfl⟩:=zAR e
  exact ⟨rv.nil_inv,y σ H μ sr (Step.refl _ _ _) re⟩
 | cons d ds=>cases e)
theorem zRA {es:List Expr}{g:G}{gs:List G} (h1:PG X e (tOfG X.K g)) (h2:PGs X es (zP4 X.K gs)) (hs:(assignEach (e::es) X.env).map (·.2)=assign e X.env::(assignEach es X.env).map (·.2)):PGs X (e::es) (zP4 X.K (g::gs)):=(zMQ h1 h2 hs).weak (by
 rintro v σ H Q ⟨μ,ρ,S,ds,ρ',S',sr,re,rv,e,y⟩
 cases ds with
 | nil=>cases e
 | cons d ds =>
  obtain ⟨ρ1,S1,e1,e⟩:=zAb e
  obtain ⟨u,us,rfl,r1,r2⟩:=rv.cons_inv
  refine ⟨u,us,rfl,μ,ρ,S,d,ρ1,S1,sr,re,r1,e1,fun σ1 H1 μ1 sr1 st1 re1=>?_⟩
  exact ⟨μ1,ρ1,S1,ds,ρ',S',sr1,re1,RVs.up st1.tk st1.ext _ _ r2,e,fun σ2 H2 μ2 sr2 st2 re2=>y σ2 H2 μ2 sr2 (st1.trans st2 sr2.nd) re2⟩)
theorem zQq {gs:List G}:∀ {ds:List D}{ρ ρ':Env1}{S S':zA0},gTs gs ds ρ S=.ok ρ' S'→ds.length=gs.length:=by
 induction gs with
 | nil=>intro ds ρ ρ' S S' e; cases ds with | nil=>rfl | cons _ _=>cases e
 | cons g gs ih =>
  intro ds ρ ρ' S S' e
  cases ds with
  | nil=>cases e
  | cons d ds =>
   obtain ⟨ρ1,S1,e1,e⟩:=zAb e
   rw [qD0,qD0,ih e]
theorem zWl {es:List Expr}{k:Nat}{gs:List G} (hc:X.calm=true) (h:PGs X es (zP4 X.K gs)) (hn:(assignEach es X.env).length=gs.length) (hst:(assignEach es X.env).findIdx? (·.1)=none):PG X (.Tuple es k pos) (tOfG X.K (gT gs)) :=
 (zUt hc h hn hst).weak (by
 rintro v σ H Q ⟨μ,ρ,S,d,ρ',S',sr,re,rv,e,y⟩
 unfold gT at e
 split at e
 ·rename_i xs
  unfold RV at rv
  obtain ⟨p,vs,rfl,q,rr⟩:=rv
  exact ⟨p,vs,rfl,.inl (SqT.of q),by rw [← rr.len]; exact zQq e,μ,ρ,S,xs,ρ',S',sr,re,rr,e,y⟩
 ·rename_i n
  split at e
  ·rename_i xs hx
   unfold RV at rv
   obtain ⟨p,rfl,hm⟩:=rv
   obtain ⟨vs,q,rr⟩:=sr.sq hm hx
   exact ⟨p,vs,rfl,.inr q,by rw [← rr.len]; exact zQq e,μ,ρ,S,xs,ρ',S',sr,re,rr,e,y⟩
  ·cases e
 ·cases e)
theorem zSX {g:G} (he:PE X e (tOf X.K ce)) (hg:PG X tg (tOfG X.K g)) (hs:swapsWithSole [tg] e pos.line X.env=pure false) (hw:swappedStores [tg] e X.env=pure none) (h1:(assignEach [tg] X.env).map (·.2)=[assign tg X.env]):PS X (.Assign [tg] e pos) (tOfS X (sAsg ce g)):=(zWL he hg hs hw h1).weak (by
 rintro E σ H ⟨μ,ρ,S,sr,re,p⟩
 unfold sAsg at p
 split at p
 ·rename_i d S' h
  split at p
  ·rename_i ρ' S2 h2
   refine ⟨μ,ρ,S,d,S',sr,re,h,fun v H1 μ1 sr1 st1 r1=>⟨μ1,ρ,S',d,ρ',S2,sr1,re.up st1,r1,h2,fun σ2 H2 μ2 sr2 st2 re2=>?_⟩⟩
   exact p σ2 H2 μ2 sr2 (st1.trans st2 sr2.nd) re2
  ·exact False.elim p
  ·exact False.elim p
 ·exact False.elim p
 ·exact False.elim p)
theorem zWa {i:Nat}{x:Str}{pos':Pos} (h:PS X (.Assign [.Name x pos'] e pos) (tAsg (tOf X.K ce) (zLR i))):PS X (.Assign [.Name x pos'] e pos) (tOfS X (sAsg ce (gN i))):=h.weak (by
 rintro E σ H ⟨μ,ρ,S,sr,re,p⟩
 unfold sAsg at p
 split at p
 ·rename_i d S' h
  have e2:gN i d ρ S'=.ok (ρ.set i (some d)) S':=rfl
  rw [e2] at p
  exact ⟨μ,ρ,S,d,S',sr,re,h,fun v H1 μ1 sr1 st1 r1=>p _ H1 μ1 sr1 st1 ((re.up st1).set r1 i)⟩
 ·exact False.elim p
 ·exact False.elim p)
noncomputable def zDJ:Nat→CT→CS→CS
 | 0,_,_=>fun _ _=>.bad
 | k+1,t,b=>fun ρ S=>match t ρ S with
  | .ok true S1=>match b ρ S1 with
   | .nx ρ2 S2=>zDJ k t b ρ2 S2
   | .ct ρ2 S2=>zDJ k t b ρ2 S2
   | .bk ρ2 S2=>.nx ρ2 S2
   | r=>r
  | .ok false S1=>.nx ρ S1
  | .bad=>.bad
  | .er _ _=>.bad
theorem zRx {t:Expr}{ct:CT}{body:List Stmt}{cb:CS} (k:Nat) (hp:PassesOwn (model X.prog X.w) X.A X.env X.xe) (ht:PT X t (tOfT X.K ct)) (hb:PSs X body (tOfS X cb)):PS X (.While t body [] pos) (tOfS X (zDJ k ct cb)):=(zRQ hp ht hb).weak (by
 rintro E σ0 H0 ⟨μ0,ρ0,S0,sr0,re0,p0⟩
 refine ⟨fun m σ H=>∃ μ ρ S,SR X.K μ S H∧Step X.K μ0 μ H0 H∧RE X.K H μ ρ σ∧zLd X μ H E (zDJ m ct cb ρ S),⟨k,μ0,ρ0,S0,sr0,Step.refl _ _ _,re0,p0⟩,?_⟩
 rintro m σ H ⟨μ,ρ,S,sr,st,re,p⟩
 cases m with
 | zero=>exact False.elim p
 | succ m =>
  unfold zDJ at p
  split at p
  ·rename_i S1 h
   refine ⟨μ,ρ,S,true,S1,sr,re,h,fun H1 μ1 sr1 st1=>?_⟩
   dsimp only
   rw [if_pos rfl]
   refine ⟨fun σ' H'=>∃ μ ρ S,SR X.K μ S H'∧Step X.K μ0 μ H0 H'∧RE X.K H' μ ρ σ'∧zLd X μ H' E (zDJ m ct cb ρ S),fun σ' H' h=>⟨m,qL1 m,h⟩,μ1,ρ,S1,sr1,re.up st1,?_⟩
   have st01:=st.trans st1 sr1.nd
   revert p
   cases cb ρ S1 with
   | nx ρ2 S2=>exact fun p σ2 H2 μ2 sr2 st2 re2=>⟨μ2,ρ2,S2,sr2,st01.trans st2 sr2.nd,re2,p.shift (st1.trans st2 sr2.nd)⟩
   | ct ρ2 S2=>exact fun p σ2 H2 μ2 sr2 st2 re2=>⟨μ2,ρ2,S2,sr2,st01.trans st2 sr2.nd,re2,p.shift (st1.trans st2 sr2.nd)⟩
   | bk ρ2 S2=>exact fun p σ2 H2 μ2 sr2 st2 re2=>p σ2 H2 μ2 sr2 (st1.trans st2 sr2.nd) re2
   | rt d S2=>exact fun p=>Yld.shift p st1
   | bad=>exact fun p=>p
   | er _ _=>exact fun p=>p
  ·rename_i S1 h
   refine ⟨μ,ρ,S,false,S1,sr,re,h,fun H1 μ1 sr1 st1=>?_⟩
   dsimp only
   rw [if_neg qA7]
   exact p σ H1 μ1 sr1 st1 (re.up st1)
  ·exact False.elim p
  ·exact False.elim p)
noncomputable abbrev zDv:=List (Nat × List D)
def okW (w:zDv) (S:zA0):Prop:=∀ p∈w,zA6 S p.1=some p.2
noncomputable abbrev CI:=Env1→M (List D × zDv)
structure ItOk (K:W.Frag) (J:It) (items:List D) (w:zDv) (μ0:List Addr) (H0:Hp):Prop where
 go:∀ (i:Nat) H μ S,SR K μ S H→Step K μ0 μ H0 H→okW w S→i<items.length→J.go i H
 yld:∀ (i:Nat) H μ S x H',SR K μ S H→Step K μ0 μ H0 H→okW w S→i<items.length→J.yld i H x H'→∃ d,items[i]?=some d∧SR K μ S H'∧Step K μ μ H H'∧RV K H' μ d x
 stop:∀ H μ S,SR K μ S H→Step K μ0 μ H0 H→okW w S→J.stop items.length H
inductive tOfI (K:W.Frag) (it:CI) (σ:St) (H:Hp) (R:It→Hp→Prop):Prop
 | mk (μ:List Addr) (ρ:Env1) (S:zA0) (items:List D) (w:zDv) (S':zA0) (sr:SR K μ S H) (re:RE K H μ ρ σ) (e:it ρ S=.ok (items,w) S') (y:∀ J H' μ',SR K μ' S' H'→Step K μ μ' H H'→ItOk K J items w μ' H'→R J H')
theorem PI.weak {iter:Expr}{t t':TI} (h:PI X tg iter t) (w:∀ σ H R,t' σ H R→t σ H R):PI X tg iter t':=fun pins s σ H R I q=>h pins s σ H R I (w σ H R q)
theorem Step.at {K:W.Frag}{μ μ':List Addr}{H H':Hp} (st:Step K μ μ' H H') {n:Nat}{a:Addr} (h:μ[n]?=some a):μ'[n]?=some a:=by
 obtain ⟨ν,rfl⟩:=st.ext
 rw [qC1 (qA5.mp h).1]; exact h
open Classical in
noncomputable def zBC (w:zDv) (g:G) (b:CS):List D→CS
 | []=>fun ρ S=>if okW w S then .nx ρ S else .bad
 | d::ds=>fun ρ S=>if okW w S then (match g d ρ S with
  | .ok ρ1 S1=>match b ρ1 S1 with
   | .nx ρ2 S2=>zBC w g b ds ρ2 S2
   | .ct ρ2 S2=>zBC w g b ds ρ2 S2
   | .bk ρ2 S2=>.nx ρ2 S2
   | r=>r
  | .bad=>.bad
  | .er _ _=>.bad) else .bad
noncomputable def sFor (it:CI) (g:G) (b:CS):CS:=fun ρ S=>match it ρ S with
 | .ok (items,w) S1=>zBC w g b items ρ S1
 | .bad=>.bad
 | .er _ _=>.bad
theorem zWc {iter:Expr}{body:List Stmt}{it:CI}{g:G}{cb:CS} (hp:PassesOwn (model X.prog X.w) X.A X.env X.xe) (hc:X.calm=true) (hi:PI X tg iter (tOfI X.K it)) (hg:PG X tg (tOfG X.K g)) (hb:PSs X body (tOfS X cb))
  (hs:∀ x,foldedSetIterable iter X.env x=pure x):PS X (.For tg iter body [] pos) (tOfS X (sFor it g cb)):=(zWK hp hc hi hg hb hs).weak (by
 rintro E σ H ⟨μ,ρ,S,sr,re,p⟩
 unfold sFor at p
 split at p
 ·rename_i items w S0 h0
  refine ⟨μ,ρ,S,items,w,S0,sr,re,h0,fun J H0 μ0 sr0 st0 io=>?_⟩
  refine ⟨fun i m σ H=>i+m=items.length∧∃ μ ρ S,SR X.K μ S H∧Step X.K μ0 μ H0 H∧RE X.K H μ ρ σ∧zLd X μ H E (zBC w g cb (items.drop i) ρ S),⟨items.length,by simp,μ0,ρ,S0,sr0,Step.refl _ _ _,re.up st0,by rw [qK6]; exact p.shift st0⟩,?_⟩
  rintro i m σ1 H1 ⟨him,μ1,ρ1,S1,sr1,st1,re1,p1⟩
  by_cases hi:i<items.length
  ·rw [qG7 hi] at p1
   unfold zBC at p1
   split at p1
   ·rename_i hw
    refine .inr ⟨io.go i H1 μ1 S1 sr1 st1 hw hi,fun σ' H'=>i+1+(m - 1)=items.length∧∃ μ ρ S,SR X.K μ S H'∧Step X.K μ0 μ H0 H'∧RE X.K H' μ ρ σ'∧zLd X μ H' E (zBC w g cb (items.drop (i+1)) ρ S),fun σ' H' z=>⟨m - 1,by omega,z⟩,fun x H2 hy=>?_⟩
    obtain ⟨d,hd,sr2,st2,rv⟩:=io.yld i H1 μ1 S1 x H2 sr1 st1 hw hi hy
    have ed:items[i]=d:=by rw [qA0 hi] at hd; exact Option.some.inj hd
    rw [ed] at p1
    split at p1
    ·rename_i ρ3 S3 h3
     refine ⟨μ1,ρ1,S1,d,ρ3,S3,sr2,re1.up st2,rv,h3,fun σ3 H3 μ3 sr3 st3 re3=>⟨μ3,ρ3,S3,sr3,re3,?_⟩⟩
     have st23:=st2.trans st3 sr3.nd
     have st03:=st1.trans st23 sr3.nd
     revert p1
     cases cb ρ3 S3 with
     | nx ρ4 S4=>exact fun p σ4 H4 μ4 sr4 st4 re4=>⟨by omega,μ4,ρ4,S4,sr4,st03.trans st4 sr4.nd,re4,p.shift (st23.trans st4 sr4.nd)⟩
     | ct ρ4 S4=>exact fun p σ4 H4 μ4 sr4 st4 re4=>⟨by omega,μ4,ρ4,S4,sr4,st03.trans st4 sr4.nd,re4,p.shift (st23.trans st4 sr4.nd)⟩
     | bk ρ4 S4=>exact fun p σ4 H4 μ4 sr4 st4 re4=>p σ4 H4 μ4 sr4 (st23.trans st4 sr4.nd) re4
     | rt d S4=>exact fun p=>Yld.shift p st23
     | bad=>exact fun p=>p
     | er _ _=>exact fun p=>p
    ·exact False.elim p1
    ·exact False.elim p1
   ·exact False.elim p1
  ·have e:i=items.length:=by omega
   subst e
   rw [qR1] at p1
   unfold zBC at p1
   split at p1
   ·rename_i hw
    exact .inl ⟨io.stop H1 μ1 S1 sr1 st1 hw,p1 σ1 H1 μ1 sr1 (Step.refl _ _ _) re1⟩
   ·exact False.elim p1
 ·exact False.elim p
 ·exact False.elim p)
end
open PySem PySem.Spec PyProof.Rows
section
variable {X:Cx}{tg e:Expr}{ce:C}{pos:Pos}
noncomputable def kD:Key→D
 | .inl i=>.int i
 | .inr x=>.str x
noncomputable def iSeq (c:C):CI:=fun ρ=>bnd (c ρ) fun x S=>match x with
 | .tup xs=>.ok (xs,[]) S
 | .lst n=>match zA6 S n with
  | some xs=>.ok (xs,[(n,xs)]) S
  | none=>.bad
 | .cd ks vs=>.ok (ks.map fun k=>.tup (k.map kD),[]) S
 | _=>.bad
theorem zXL {K:W.Frag}{H0:Hp}{μ0:List Addr}{a:Addr}{xs:List D}{vs:List V} (q:SqT K H0 a vs) (r:RVs K H0 μ0 xs vs):ItOk K (Itt K a) xs [] μ0 H0 where
 go:=fun i H μ S sr st _ hi=>by
  obtain ⟨v,e,_⟩:=r.get (qA0 hi)
  exact ⟨vs,v,st.tk.t _ _ q,e⟩
 yld:=fun i H μ S x H' sr st _ hi y=>by
  obtain ⟨rfl,y⟩:=y
  obtain ⟨v,e,rv⟩:=r.get (qA0 hi)
  have:=y vs (st.tk.t _ _ q)
  rw [e] at this; cases this
  exact ⟨xs[i],qA0 hi,sr,Step.refl _ _ _,RV.up st.tk st.ext _ _ rv⟩
 stop:=fun H μ S sr st _=>⟨vs,st.tk.t _ _ q,by rw [r.len]; exact qB0 _⟩
theorem zXM {K:W.Frag}{H0:Hp}{μ0:List Addr}{a:Addr}{n:Nat}{xs:List D} (hm:μ0[n]?=some a):ItOk K (Itl K a) xs [(n,xs)] μ0 H0 where
 go:=fun i H μ S sr st w hi=>by
  obtain ⟨vs,q,r⟩:=sr.sq (st.at hm) (w (n,xs) (by simp))
  obtain ⟨v,e,_⟩:=r.get (qA0 hi)
  exact ⟨vs,v,q,e⟩
 yld:=fun i H μ S x H' sr st w hi y=>by
  obtain ⟨rfl,y⟩:=y
  obtain ⟨vs,q,r⟩:=sr.sq (st.at hm) (w (n,xs) (by simp))
  obtain ⟨v,e,rv⟩:=r.get (qA0 hi)
  have:=y vs q
  rw [e] at this; cases this
  exact ⟨xs[i],qA0 hi,sr,Step.refl _ _ _,rv⟩
 stop:=fun H μ S sr st w=>by
  obtain ⟨vs,q,r⟩:=sr.sq (st.at hm) (w (n,xs) (by simp))
  exact ⟨vs,q,by rw [r.len]; exact qB0 _⟩
theorem zLu {K:W.Frag}{H:Hp}{μ:List Addr}:∀ k:List Key,RVs K H μ (k.map kD) (k.map kV)
 | []=>RVs.nil
 | .inl i::r=>RVs.cons (by unfold RV; rfl) (zLu r)
 | .inr x::r=>RVs.cons (by unfold RV; rfl) (zLu r)
theorem zaB {K:W.Frag}{H0:Hp}{μ0:List Addr}{a:Addr}{o:Obj}{ws:List (List Key × V)} (q:H0 a=some (.frz o (.dT ws))):ItOk K (Itd a o) ((ws.map (·.1)).map fun k=>D.tup (k.map kD)) [] μ0 H0 where
 go:=fun i H μ S sr st _ hi=>⟨ws,st.tk.z _ _ _ q,by simpa using hi⟩
 yld:=fun i H μ S x H' sr st _ hi y=>by
  obtain ⟨rfl,y⟩:=y
  obtain ⟨p,b,hp,rfl,hb⟩:=y ws (st.tk.z _ _ _ q)
  refine ⟨.tup (p.1.map kD),by simp [qA6,hp],sr,Step.refl _ _ _,?_⟩
  unfold RV
  exact ⟨b,_,rfl,hb,zLu p.1⟩
 stop:=fun H μ S sr st _=>⟨ws,st.tk.z _ _ _ q,by simp⟩
theorem zWP {tl:TE} (hl:PE X e tl):PI X tg e (fun σ H R=>tl σ H fun x H1=>∃ a,x=.ref a∧((∃ xs,SqL X.K H1 a xs)∧R (Itl X.K a) H1∨(∃ xs,SqT X.K H1 a xs)∧R (Itt X.K a) H1
  ∨ (∃ o kvs,H1 a=some (.frz o (.dT kvs))∧R (Itd a o) H1)
  )):=by
 intro pins s σ H R I h
 refine thn (hl pins s σ H _ I h) fun v s1 ⟨x,H1,I1,r1,q1⟩=>?_
 obtain ⟨a,e,q⟩:=q1
 subst e
 cases r1
 rcases q with ⟨⟨xs,hq⟩,q⟩ | ⟨⟨xs,hq⟩,q⟩ | ⟨o,kvs,hq,q⟩
 ·obtain ⟨its,rv,p,hz⟩:=I1.list hq
  refine wpAny_pyIter_list p.isList ?_
  refine ⟨s1.heap.objs.size,[s1.heap.objs.size],_,_,H1,rfl,I1.kept (t':=s1.toks) fun b o e=>qA4 _ e,zOR a _,⟨_,qB4 _ rfl,rfl,rfl⟩,fun b hb=>?_,q⟩
  have e:b=s1.heap.objs.size:=by simpa using hb
  subst e
  exact I1.fpOk (qB0 _) (I1.hok.fresh (qB0 _))
 ·obtain ⟨its,rv,p,hz⟩:=I1.tuple hq
  refine wpAny_pyIter_tuple (show s1.heap.IsTuple a its.toArray from p) ?_
  refine ⟨s1.heap.objs.size,[s1.heap.objs.size],_,_,H1,rfl,I1.kept (t':=s1.toks) fun b o e=>qA4 _ e,zNy a _,⟨_,qB4 _ rfl,rfl,rfl⟩,fun b hb=>?_,q⟩
  have e:b=s1.heap.objs.size:=by simpa using hb
  subst e
  exact I1.fpOk (qB0 _) (I1.hok.fresh (qB0 _))
 ·obtain ⟨es,ep,xs,g,c,d,r,e,lo,z⟩:=zV3 I1 hq
  refine zSm lo ⟨o,g,c,d⟩ ?_
  refine ⟨s1.heap.objs.size,[s1.heap.objs.size],_,_,H1,rfl,I1.kept (t':=s1.toks) fun b o e=>qA4 _ e,zNB a _ o es ep d,⟨_,qB4 _ rfl,rfl,rfl⟩,fun b hb=>?_,q⟩
  have e:b=s1.heap.objs.size:=by simpa using hb
  subst e
  exact I1.fpOk (qB0 _) (I1.hok.fresh (qB0 _))
theorem zWk (he:PE X e (tOf X.K ce)):PI X tg e (tOfI X.K (iSeq ce)):=(zWP he).weak (by
 rintro σ H R ⟨μ,ρ,S,items,w,S',sr,re,e,y⟩
 obtain ⟨x,S1,e1,e⟩:=zAb e
 refine ⟨μ,ρ,S,x,S1,sr,re,e1,fun v H1 μ1 sr1 st1 r1=>?_⟩
 try dsimp only at e
 split at e
 ·rename_i xs
  cases e
  have r1':=r1
  unfold RV at r1'; obtain ⟨a,vs,rfl,q,rr⟩:=r1'
  exact ⟨a,rfl,.inr (.inl ⟨⟨vs,SqT.of q⟩,y _ H1 μ1 sr1 st1 (zXL (SqT.of q) rr)⟩)⟩
 ·rename_i n
  split at e
  ·rename_i xs hx
   cases e
   unfold RV at r1; obtain ⟨a,rfl,hm⟩:=r1
   obtain ⟨vs,q,rr⟩:=sr1.sq hm hx
   exact ⟨a,rfl,.inl ⟨⟨vs,q⟩,y _ H1 μ1 sr1 st1 (zXM hm)⟩⟩
  ·cases e
 ·rename_i ks vs
  cases e
  unfold RV at r1; obtain ⟨a,o,ws,rfl,q,rfl,rr⟩:=r1
  exact ⟨a,rfl,.inr (.inr ⟨o,ws,q,y _ H1 μ1 sr1 st1 (zaB q)⟩)⟩
 ·cases e)
noncomputable def upD (lo:Int) (n:Nat):List D:=(List.range n).map fun k=>D.int (lo+(k:Nat))
theorem zT9 {K:W.Frag}{H0:Hp}{μ0:List Addr}{lo:Int}{n:Nat}:ItOk K (Itr lo n) (upD lo n) [] μ0 H0 where
 go:=fun i H μ S sr st _ hi=>by
  unfold upD at hi; simp at hi; exact hi
 yld:=fun i H μ S x H' sr st _ hi y=>by
  obtain ⟨rfl,rfl⟩:=y
  have hi':i<n:=by unfold upD at hi; simp at hi; exact hi
  exact ⟨.int (lo+i),by unfold upD; rw [qA6,qC8 hi']; rfl,sr,Step.refl _ _ _,zBO⟩
 stop:=fun H μ S sr st _=>by
  show n≤(upD lo n).length
  unfold upD; simp
noncomputable def zB4 (a:CA):CI:=fun ρ=>bnd (a ρ) fun xs S=>match xs with
 | [.int j]=>if -4611686018427387904≤j∧j<4611686018427387904 then .ok (upD 0 j.toNat,[]) S else .bad
 | _=>.bad
noncomputable def zJn (a:CA):CI:=fun ρ=>bnd (a ρ) fun xs S=>match xs with
 | [.int i,.int j]=>if -4611686018427387904≤i∧i<4611686018427387904∧-4611686018427387904≤j∧j<4611686018427387904 then .ok (upD i (j - i).toNat,[]) S else .bad
 | _=>.bad
variable {a b:Expr}{ca:CA}
theorem zPg {p:Pos} (h:PI X tg (.Call (.Name "range" p) [a] [] pos) (zXR (tOfA X.K ca))):PI X tg (.Call (.Name "range" p) [a] [] pos) (tOfI X.K (zB4 ca)):=h.weak (by
 rintro σ H R ⟨μ,ρ,S,items,w,S',sr,re,e,y⟩
 obtain ⟨xs,S1,e1,e⟩:=zAb e
 refine ⟨μ,ρ,S,xs,S1,sr,re,e1,fun vs H1 μ1 sr1 st1 r1=>?_⟩
 try dsimp only at e
 split at e
 ·rename_i j
  split at e
  ·rename_i hl
   cases e
   obtain ⟨v,rfl,r2⟩:=r1.one
   unfold RV at r2; subst r2
   exact ⟨j,rfl,hl.1,hl.2,y _ H1 μ1 sr1 st1 zT9⟩
  ·cases e
 ·cases e)
theorem zPf {p:Pos} (h:PI X tg (.Call (.Name "range" p) [a,b] [] pos) (zXQ (tOfA X.K ca))):PI X tg (.Call (.Name "range" p) [a,b] [] pos) (tOfI X.K (zJn ca)):=h.weak (by
 rintro σ H R ⟨μ,ρ,S,items,w,S',sr,re,e,y⟩
 obtain ⟨xs,S1,e1,e⟩:=zAb e
 refine ⟨μ,ρ,S,xs,S1,sr,re,e1,fun vs H1 μ1 sr1 st1 r1=>?_⟩
 try dsimp only at e
 split at e
 ·rename_i i j
  split at e
  ·rename_i hl
   cases e
   obtain ⟨v,u,rfl,r2,r3⟩:=r1.two
   unfold RV at r2 r3; subst r2 r3
   exact ⟨i,j,rfl,hl,y _ H1 μ1 sr1 st1 zT9⟩
  ·cases e
 ·cases e)
theorem zOJ {α β:Type}{xs:List α}{ys:List β}{i:Nat} (h:i<(xs.zip ys).length):∃ x y,xs[i]?=some x∧ys[i]?=some y∧(xs.zip ys)[i]?=some (x,y):=by
 rw [qG8] at h
 have h1:i<xs.length:=by omega
 have h2:i<ys.length:=by omega
 exact ⟨xs[i],ys[i],qA0 h1,qA0 h2,by rw [qD8]; exact ⟨qA0 h1,qA0 h2⟩⟩
noncomputable def zipD (xs ys:List D):List D:=(xs.zip ys).map fun p=>.tup [p.1,p.2]
noncomputable def zsAt (S:zA0):D→Option (List D)
 | .tup xs=>some xs
 | .lst n=>zA6 S n
 | _=>none
noncomputable def zDP (x:D) (xs:List D):zDv:=match x with
 | .lst n=>[(n,xs)]
 | _=>[]
theorem zSY {K:W.Frag}{μ:List Addr}{S:zA0}{H:Hp}{x:D}{v:V}{xs:List D} (sr:SR K μ S H) (r:RV K H μ x v) (ho:zsAt S x=some xs):∃ a b,v=.ref a∧(∃ vs,SqX b K H a vs) ∧
  ∀ H1 μ1 S1,SR K μ1 S1 H1→Step K μ μ1 H H1→okW (zDP x xs) S1→∃ vs,SqX b K H1 a vs∧RVs K H1 μ1 xs vs:=by
 unfold zsAt at ho
 split at ho
 ·rename_i ys
  cases ho
  unfold RV at r; obtain ⟨a,vs,rfl,q,rr⟩:=r
  exact ⟨a,true,rfl,⟨vs,SqT.of q⟩,fun H1 μ1 S1 sr1 st1 _=>⟨vs,st1.tk.t _ _ (SqT.of q),RVs.up st1.tk st1.ext _ _ rr⟩⟩
 ·rename_i n
  unfold RV at r; obtain ⟨a,rfl,hm⟩:=r
  obtain ⟨vs,q,rr⟩:=sr.sq hm ho
  exact ⟨a,false,rfl,⟨vs,q⟩,fun H1 μ1 S1 sr1 st1 w=>sr1.sq (st1.at hm) (w (n,xs) (by simp [zDP]))⟩
 ·cases ho
theorem zFI {w1 w2:zDv}{S:zA0}:okW (w1++w2) S↔okW w1 S∧okW w2 S:=by
 unfold okW
 simp only [qD2]
 exact ⟨fun h=>⟨fun p hp=>h p (.inl hp),fun p hp=>h p (.inr hp)⟩,fun h p hp=>hp.elim (h.1 p) (h.2 p)⟩
theorem zUY {K:W.Frag}{H0:Hp}{μ0:List Addr}{a b:Addr}{b1 b2:Bool}{w1 w2:zDv}{xs ys:List D}
  (g1:∀ H1 μ1 S1,SR K μ1 S1 H1→Step K μ0 μ1 H0 H1→okW w1 S1→∃ vs,SqX b1 K H1 a vs∧RVs K H1 μ1 xs vs) (g2:∀ H1 μ1 S1,SR K μ1 S1 H1→Step K μ0 μ1 H0 H1→okW w2 S1→∃ vs,SqX b2 K H1 b vs∧RVs K H1 μ1 ys vs) :
  ItOk K (ItzX b1 b2 K a b) (zipD xs ys) (w1++w2) μ0 H0 where
 go:=fun i H μ S sr st w hi=>by
  obtain ⟨vs,q,r⟩:=g1 H μ S sr st (zFI.mp w).1
  obtain ⟨us,q2,r2⟩:=g2 H μ S sr st (zFI.mp w).2
  obtain ⟨x,y,e1,e2,_⟩:=zOJ (xs:=xs) (ys:=ys) (i:=i) (by unfold zipD at hi; simpa using hi)
  obtain ⟨v,g1,_⟩:=r.get e1
  obtain ⟨u,g2,_⟩:=r2.get e2
  exact ⟨vs,us,v,u,q,q2,g1,g2⟩
 yld:=fun i H μ S x H' sr st w hi y=>by
  obtain ⟨T,hT,rfl,y⟩:=y
  obtain ⟨vs,q,r⟩:=g1 H μ S sr st (zFI.mp w).1
  obtain ⟨us,q2,r2⟩:=g2 H μ S sr st (zFI.mp w).2
  obtain ⟨x,y',e1,e2,e3⟩:=zOJ (xs:=xs) (ys:=ys) (i:=i) (by unfold zipD at hi; simpa using hi)
  obtain ⟨v,g1,rv⟩:=r.get e1
  obtain ⟨u,g2,ru⟩:=r2.get e2
  have:=y vs us v u q q2 g1 g2
  subst this
  obtain ⟨s1,s2,s3⟩:=zJe (p:=T) sr hT (.cons rv (.cons ru .nil))
  exact ⟨.tup [x,y'],by unfold zipD; rw [qA6,e3]; rfl,s1,s2,s3⟩
 stop:=fun H μ S sr st w=>by
  obtain ⟨vs,q,r⟩:=g1 H μ S sr st (zFI.mp w).1
  obtain ⟨us,q2,r2⟩:=g2 H μ S sr st (zFI.mp w).2
  exact ⟨vs,us,q,q2,by unfold zipD; rw [qA2,qG8,r.len,r2.len]⟩
noncomputable def zI2 (a:CA):CI:=fun ρ=>bnd (a ρ) fun xs S=>match xs with
 | [x,y]=>match zsAt S x,zsAt S y with
  | some ys,some zs=>.ok (zipD ys zs,zDP x ys++zDP y zs) S
  | _,_=>.bad
 | _=>.bad
theorem zWj {elts:List Expr}{k:Nat}{tpos p:Pos} (h:PI X (.Tuple elts k tpos) (.Call (.Name "zip" p) [a,b] [] pos) (zXP X.K (tOfA X.K ca))):PI X (.Tuple elts k tpos) (.Call (.Name "zip" p) [a,b] [] pos) (tOfI X.K (zI2 ca)):=h.weak (by
 rintro σ H R ⟨μ,ρ,S,items,w,S',sr,re,e,y⟩
 obtain ⟨xs,S1,e1,e⟩:=zAb e
 refine ⟨μ,ρ,S,xs,S1,sr,re,e1,fun vs H1 μ1 sr1 st1 r1=>?_⟩
 try dsimp only at e
 split at e
 ·rename_i x1 x2
  split at e
  ·rename_i ys zs h1 h2
   cases e
   obtain ⟨v,u,rfl,r2,r3⟩:=r1.two
   obtain ⟨a,b1,rfl,q1,g1⟩:=zSY sr1 r2 h1
   obtain ⟨b,b2,rfl,q2,g2⟩:=zSY sr1 r3 h2
   exact ⟨a,b,b1,b2,rfl,q1,q2,y _ H1 μ1 sr1 st1 (zUY g1 g2)⟩
  ·cases e
 ·cases e)
noncomputable def zEW (xs:List D):List D:=((List.range xs.length).zip xs).map fun p=>.tup [.int (p.1:Nat),p.2]
theorem zNg {xs:List D}{i:Nat} (h:i<xs.length):(zEW xs)[i]?=some (.tup [.int (i:Nat),xs[i]]):=by
 unfold zEW
 rw [qA6]
 have:((List.range xs.length).zip xs)[i]?=some (i,xs[i]):=by
  rw [qD8]
  exact ⟨qC8 h,qA0 h⟩
 rw [this]; rfl
theorem zEv (xs:List D):(zEW xs).length=xs.length:=by unfold zEW; simp
theorem zSn {K:W.Frag}{H0:Hp}{μ0:List Addr}{a:Addr}{xs:List D}{vs:List V} (q:SqT K H0 a vs) (r:RVs K H0 μ0 xs vs):ItOk K (IteX true K a) (zEW xs) [] μ0 H0 where
 go:=fun i H μ S sr st _ hi=>by
  rw [zEv] at hi
  obtain ⟨v,e,_⟩:=r.get (qA0 hi)
  exact ⟨vs,v,st.tk.t _ _ q,e⟩
 yld:=fun i H μ S x H' sr st _ hi y=>by
  rw [zEv] at hi
  obtain ⟨T,hT,rfl,y⟩:=y
  obtain ⟨v,e,rv⟩:=r.get (qA0 hi)
  have:=y vs v (st.tk.t _ _ q) e
  subst this
  obtain ⟨s1,s2,s3⟩:=zJe (p:=T) sr hT (.cons zBO (.cons (RV.up st.tk st.ext _ _ rv) .nil))
  exact ⟨_,zNg hi,s1,s2,s3⟩
 stop:=fun H μ S sr st _=>⟨vs,st.tk.t _ _ q,by rw [zEv,r.len]⟩
theorem zSo {K:W.Frag}{H0:Hp}{μ0:List Addr}{a:Addr}{n:Nat}{xs:List D} (hm:μ0[n]?=some a):ItOk K (IteX false K a) (zEW xs) [(n,xs)] μ0 H0 where
 go:=fun i H μ S sr st w hi=>by
  rw [zEv] at hi
  obtain ⟨vs,q,r⟩:=sr.sq (st.at hm) (w (n,xs) (by simp))
  obtain ⟨v,e,_⟩:=r.get (qA0 hi)
  exact ⟨vs,v,q,e⟩
 yld:=fun i H μ S x H' sr st w hi y=>by
  rw [zEv] at hi
  obtain ⟨T,hT,rfl,y⟩:=y
  obtain ⟨vs,q,r⟩:=sr.sq (st.at hm) (w (n,xs) (by simp))
  obtain ⟨v,e,rv⟩:=r.get (qA0 hi)
  have:=y vs v q e
  subst this
  obtain ⟨s1,s2,s3⟩:=zJe (p:=T) sr hT (.cons zBO (.cons rv .nil))
  exact ⟨_,zNg hi,s1,s2,s3⟩
 stop:=fun H μ S sr st w=>by
  obtain ⟨vs,q,r⟩:=sr.sq (st.at hm) (w (n,xs) (by simp))
  exact ⟨vs,q,by rw [zEv,r.len]⟩
noncomputable def zKy (a:CA):CI:=fun ρ=>bnd (a ρ) fun xs S=>match xs with
 | [.tup ys]=>.ok (zEW ys,[]) S
 | [.lst n]=>match zA6 S n with
  | some ys=>.ok (zEW ys,[(n,ys)]) S
  | none=>.bad
 | _=>.bad
theorem zTQ {elts:List Expr}{k:Nat}{tpos p:Pos} (h:PI X (.Tuple elts k tpos) (.Call (.Name "enumerate" p) [a] [] pos) (zTc X.K (tOfA X.K ca))):PI X (.Tuple elts k tpos) (.Call (.Name "enumerate" p) [a] [] pos) (tOfI X.K (zKy ca)):=h.weak (by
 rintro σ H R ⟨μ,ρ,S,items,w,S',sr,re,e,y⟩
 obtain ⟨xs,S1,e1,e⟩:=zAb e
 refine ⟨μ,ρ,S,xs,S1,sr,re,e1,fun vs H1 μ1 sr1 st1 r1=>?_⟩
 try dsimp only at e
 split at e
 ·rename_i ys
  cases e
  obtain ⟨v,rfl,r2⟩:=r1.one
  unfold RV at r2
  obtain ⟨a,vs,rfl,q,rr⟩:=r2
  exact ⟨a,rfl,.inl ⟨⟨vs,SqT.of q⟩,y _ H1 μ1 sr1 st1 (zSn (SqT.of q) rr)⟩⟩
 ·rename_i n
  split at e
  ·rename_i ys ho
   cases e
   obtain ⟨v,rfl,r2⟩:=r1.one
   unfold RV at r2
   obtain ⟨a,rfl,hm⟩:=r2
   obtain ⟨vs,q,_⟩:=sr1.sq hm ho
   exact ⟨a,rfl,.inr ⟨⟨vs,q⟩,y _ H1 μ1 sr1 st1 (zSo hm)⟩⟩
  ·cases e
 ·cases e)
noncomputable def stE (k:Nat) (js:List Nat) (ρ:Env1):Env1:=qC2 k none++js.map fun j=>(ρ[j]?).getD none
theorem RE.comp {K:W.Frag}{H:Hp}{μ:List Addr}{ρ:Env1}{σ:St} (re:RE K H μ ρ σ) (k:Nat) (js:List Nat):RE K H μ (stE k js ρ) (stC k js σ):=by
 refine ⟨by unfold stE stC; simp,fun i d e=>?_⟩
 unfold stE at e
 unfold stC
 by_cases hi:i<k
 ·rw [qC1 (by simpa using hi),qF9] at e
  simp [hi] at e
 ·rw [qB6 (by simpa using hi),qG6,qA6] at e
  rw [qB6 (by simpa using hi),qG6,qA6]
  cases q:js[i - k]? with
  | none=>rw [q] at e; simp at e
  | some j =>
   rw [q] at e
   simp only [qO3,Option.some.injEq] at e
   cases q2:ρ[j]? with
   | none=>rw [q2] at e; simp at e
   | some z =>
    rw [q2] at e
    simp at e
    subst e
    obtain ⟨v,e1,r1⟩:=re.2 j d q2
    exact ⟨v,by simp [e1],r1⟩
inductive Tgt where
 | one | many (k:Nat)
noncomputable def zGU:Env1→Nat→List D→Env1
 | ρ,_,[]=>ρ
 | ρ,s,x::xs=>zGU (ρ.set s (some x)) (s+1) xs
noncomputable def zHK (t:Tgt) (d:D) (ρ:Env1):Option Env1:=match t with
 | .one=>some (ρ.set 0 (some d))
 | .many k=>match d with
  | .tup xs=>if xs.length=k then some (zGU ρ 0 xs) else none
  | _=>none
noncomputable def zNb:Nat→Nat→TGs
 | _,0=>gNil
 | s,n+1=>zXX (zLR s) (zNb (s+1) n)
noncomputable def tgtK:Tgt→Nat
 | .one=>1
 | .many k=>k
noncomputable def tOfT' (K:W.Frag):Tgt→TG
 | .one=>zLR 0
 | .many k=>gTup K k (zNb 0 k)
theorem zMA {k:Nat}{js:List Nat}{σ σ1:St} (h:zLc (stC k js σ) σ1) {i:Nat} (hi:i<k) (v:V):zLc (stC k js σ) (σ1.set i (some v)):=by
 refine ⟨by rw [qI7]; exact h.1,fun j u e=>?_⟩
 by_cases hj:i=j
 ·subst hj
  obtain ⟨_,h1,_⟩:=zP7 e
  omega
 ·rw [qD7 hj]
  exact h.2 j u e
theorem zJJ (σ:St):zLc σ σ:=⟨rfl,fun _ _ h=>h⟩
theorem zMZ {K:W.Frag}{H:Hp}{μ:List Addr}{k:Nat}{js:List Nat}{σ:St}{Q:St→Hp→Prop}:∀ {n s:Nat}{xs:List D}{vs:List V}{ρ1:Env1}{σ1:St},RVs K H μ xs vs→xs.length=n→s+n≤k→RE K H μ ρ1 σ1→zLc (stC k js σ) σ1→(∀ σ4,RE K H μ (zGU ρ1 s xs) σ4→zLc (stC k js σ) σ4→Q σ4 H)→zNb s n vs σ1 H Q
 | 0,s,xs,vs,ρ1,σ1,r,hl,hk,re,w,h=>by
  have:xs=[]:=qI1.mp hl
  subst this
  exact ⟨r.nil_inv,h σ1 re w⟩
 | n+1,s,[],vs,ρ1,σ1,r,hl,hk,re,w,h=>by simp at hl
 | n+1,s,x::xs,vs,ρ1,σ1,r,hl,hk,re,w,h=>by
  obtain ⟨v,us,rfl,r1,r2⟩:=r.cons_inv
  exact ⟨v,us,rfl,zMZ r2 (by simpa using hl) (by omega) (re.set r1 s) (zMA w (by omega) v) h⟩
theorem zVx {K:W.Frag}{H:Hp}{μ:List Addr}{k:Nat}{js:List Nat}{σ:St}{ρ ρ4:Env1}{t:Tgt}{d:D}{x:V}{Q:St→Hp→Prop} (ht:tgtK t≤k) (re:RE K H μ (stE k js ρ) (stC k js σ)) (rv:RV K H μ d x) (e:zHK t d (stE k js ρ)=some ρ4) (h:∀ σ4,RE K H μ ρ4 σ4→zLc (stC k js σ) σ4→Q σ4 H) (h1:1≤k):tOfT' K t x (stC k js σ) H Q:=by
 cases t with
 | one =>
  cases e
  exact h _ (re.set rv 0) (zMA (zJJ _) h1 x)
 | many n =>
  unfold zHK at e
  dsimp only at e
  split at e
  ·rename_i xs
   split at e
   ·rename_i hl
    cases e
    unfold RV at rv
    obtain ⟨p,vs,rfl,q,rr⟩:=rv
    exact ⟨p,vs,rfl,SqT.of q,by rw [← rr.len]; exact hl,zMZ rr hl (by have:n≤k:=ht; omega) re (zJJ _) h⟩
   ·cases e
  ·cases e
open Classical in
noncomputable def zAq (w:zDv) (t:Tgt) (tc:CT) (c:C) (ρ0:Env1):List D→M (List D)
 | []=>fun S=>if okW w S then .ok [] S else .bad
 | d::ds=>fun S=>if okW w S then (match zHK t d ρ0 with
  | some ρ1=>bnd (tc ρ1) (fun k=>if k then bnd (c ρ1) fun y=>bnd (zAq w t tc c ρ0 ds) fun ys=>ret (y::ys) else zAq w t tc c ρ0 ds) S
  | none=>.bad) else .bad
noncomputable def zBe (it:CI) (k:Nat) (js:List Nat) (t:Tgt) (tc:CT) (c:C):C:=fun ρ=>bnd (it ρ) fun p S=>if p.1.length<lim then
  bnd (zAq p.2 t tc c (stE k js ρ) p.1) (fun ys S'=>.ok (.lst S'.length) (S'++[.lst ys])) S
 else .bad
theorem SR.acc {K:W.Frag}{H:Hp}{μ:List Addr}{S:zA0}{A:Addr}{us ws:List V} (sr:SR K μ S H) (hA:A∉μ) (h:H A=some (.lst us)):SR K μ S (upd H A (.lst ws)) :=
 ⟨sr.len,sr.nd,fun n a o e1 e2=>(sr.obj n a o e1 e2).up (zMF h) ⟨[],by simp⟩ (zAi fun z=>hA (z▸qB9 e1))⟩
theorem Step.acc {K:W.Frag}{H0 H:Hp}{μ0 μ:List Addr}{A:Addr}{us ws:List V} (st:Step K μ0 μ H0 H) (h0:H0 A=none) (h:H A=some (.lst us)):Step K μ0 μ H0 (upd H A (.lst ws)) :=
 ⟨st.pre,fun b o hb e=>by rw [zAi (zBc e h0)]; exact st.fr b o hb e,st.tk.trans (zMF h)⟩
theorem SR.adopt {K:W.Frag}{H:Hp}{μ:List Addr}{S:zA0}{A:Addr}{us:List V}{acc:List D} (sr:SR K μ S H) (hA:A∉μ) (h:H A=some (.lst us)) (r:RVs K H μ acc us):SR K (μ++[A]) (S++[.lst acc]) H:=by
 refine ⟨by simp [sr.len],?_,fun n a u e1 e2=>?_⟩
 ·rw [qH6]
  refine ⟨sr.nd,by simp,fun a ha b hb=>?_⟩
  simp at hb; subst hb
  exact fun z=>hA (z▸ha)
 ·by_cases hn:n<μ.length
  ·rw [qC1 hn] at e1
   rw [qC1 (by rw [← sr.len]; exact hn)] at e2
   exact (sr.obj n a u e1 e2).up (TF.refl _ _) ⟨[A],rfl⟩ rfl
  ·rw [qB6 (by omega)] at e1
   rw [qB6 (by rw [← sr.len]; omega)] at e2
   have h1:n - μ.length=0:=by
    have:=(qA5.mp e1).1
    simp at this; omega
   rw [h1] at e1
   rw [← sr.len,h1] at e2
   simp at e1 e2
   subst e1 e2
   exact ⟨us,h,RVs.up (TF.refl _ _) ⟨[A],rfl⟩ _ _ r⟩
theorem Step.adopt {K:W.Frag}{H0 H:Hp}{μ0 μ:List Addr}{A:Addr} (st:Step K μ0 μ H0 H) (h0:H0 A=none):Step K μ0 (μ++[A]) H0 H:=by
 obtain ⟨ν,e,n⟩:=st.pre
 refine ⟨⟨ν++[A],by rw [e,qH4],fun b hb=>?_⟩,st.fr,st.tk⟩
 rcases qD2.mp hb with h | h
 ·exact n b h
 ·simp at h; subst h; exact h0
theorem Step.notIn {K:W.Frag}{H H':Hp}{μ μ':List Addr}{A:Addr}{o:HO} (st:Step K μ μ' H H') (hA:A∉μ) (h:H A=some o):A∉μ':=fun z=>by
 obtain ⟨ν,rfl,n⟩:=st.pre
 rcases qD2.mp z with q | q
 ·exact hA q
 ·rw [n A q] at h; cases h
inductive zb5 (K:W.Frag) (items:List D) (w:zDv) (t:Tgt) (tc:CT) (c:C) (ρ0:Env1) (μ0:List Addr) (H0:Hp) (A:Addr) (S1:zA0) (ys:List D) (i m:Nat) (us:List V) (H2:Hp):Prop
 | mk (him:i+m=items.length) (hus:us.length≤i) (μ2:List Addr) (S2:zA0) (acc rest:List D) (sr:SR K μ2 S2 H2) (st:Step K μ0 μ2 H0 H2) (nA:A∉μ2) (hA:H2 A=some (.lst us)) (ra:RVs K H2 μ2 acc us) (el:zAq w t tc c ρ0 (items.drop i) S2=.ok rest S1) (eys:acc++rest=ys)
theorem zPK {σ:St}{H:Hp}{Q:VK}{it:CI}{k:Nat}{js:List Nat}{t:Tgt}{tc:CT}{c:C} (ht:tgtK t≤k) (h1:1≤k) (h:tOf X.K (zBe it k js t tc c) σ H Q):zTF (tOfI X.K it) k js (tOfT' X.K t) (tOfT X.K tc) (tOf X.K c) σ H Q:=by
 obtain ⟨μ,ρ,S,d,S',sr,re,e,y⟩:=h
 obtain ⟨⟨items,w⟩,S0,e0,f0⟩:=zAb e
 dsimp only at f0
 split at f0
 ·rename_i hlim
  obtain ⟨ys,S1,e1,f1⟩:=zAb f0
  cases f1
  refine ⟨μ,ρ,S,items,w,S0,sr,re,e0,fun J H0 μ0 sr0 st0 io A hA=>?_⟩
  have reC:=(re.up st0).comp k js
  obtain ⟨srA,stA⟩:=sr0.other (o:=.lst []) hA
  have nA:A∉μ0:=sr0.out hA
  refine ⟨zb5 X.K items w t tc c (stE k js ρ) μ0 H0 A S1 ys,
   ⟨items.length,⟨by simp,qJ2 _,μ0,S0,[],ys,srA,stA,nA,zAV,RVs.nil,by rw [qK6]; exact e1,rfl⟩⟩,?_⟩
  rintro i m us H2 ⟨him,hus,μ2,S2,acc,rest,sr2,st2,nA2,hA2,racc,el,eys⟩
  refine And.intro hA2 ?_
  by_cases hi:i<items.length
  ·rw [qG7 hi] at el
   unfold zAq at el
   split at el
   ·rename_i hw
    refine .inr ⟨io.go i H2 μ2 S2 sr2 st2 hw hi,zPZ (by omega),fun x H3 hy=>?_⟩
    obtain ⟨d,hd,sr3,st3,rv⟩:=io.yld i H2 μ2 S2 x H3 sr2 st2 hw hi hy
    have ed:items[i]=d:=by rw [qA0 hi] at hd; exact Option.some.inj hd
    rw [ed] at el
    have hA3:H3 A=some (.lst us):=st3.fr A _ nA2 hA2
    have st03:=st2.trans st3 sr3.nd
    split at el
    ·rename_i ρ4 h4
     refine zVx ht (reC.up st03) rv h4 (fun σ4 re4 wk=>⟨wk,?_⟩) h1
     obtain ⟨kb,S3,e3,f3⟩:=zAb el
     refine ⟨μ2,ρ4,S2,kb,S3,sr3,re4,e3,fun H5 μ5 sr5 st5=>?_⟩
     have hA5:H5 A=some (.lst us):=st5.fr A _ nA2 hA3
     have nA5:=st5.notIn nA2 hA3
     have st05:=st03.trans st5 sr5.nd
     have st25:=st3.trans st5 sr5.nd
     cases kb with
     | true =>
      rw [if_pos rfl] at f3 ⊢
      obtain ⟨z,S4,e4,f4⟩:=zAb f3
      obtain ⟨zs,S5,e5,f5⟩:=zAb f4
      obtain ⟨rfl,rfl⟩:=zAR f5
      refine ⟨μ5,ρ4,S3,z,S4,sr5,re4.up st5,e4,fun v H6 μ6 sr6 st6 rv6=>?_⟩
      have hA6:H6 A=some (.lst us):=st6.fr A _ nA5 hA5
      have nA6:=st6.notIn nA5 hA5
      have st26:=st25.trans st6 sr6.nd
      have tku:TF X.K H6 (upd H6 A (.lst (us++[v]))):=zMF hA6
      refine ⟨hA6,m - 1,by omega,⟨by omega,by rw [qC4]; show us.length+1≤i+1; omega,μ6,S4,acc++[z],zs,sr6.acc nA6 hA6,(st05.trans st6 sr6.nd).acc hA hA6,nA6,zAV,?_,e5,by rw [qH4]; exact eys⟩⟩
      exact RVs.up tku ⟨[],by simp⟩ _ _ ((RVs.up st26.tk st26.ext _ _ racc).append (.cons rv6 .nil))
     | false =>
      rw [if_neg qA7] at f3 ⊢
      exact ⟨m - 1,by omega,⟨by omega,by omega,μ5,S3,acc,rest,sr5,st05,nA5,hA5,RVs.up st25.tk st25.ext _ _ racc,f3,eys⟩⟩
    ·cases el
   ·cases el
  ·have ei:i=items.length:=by omega
   subst ei
   rw [qR1] at el
   unfold zAq at el
   split at el
   ·rename_i hw
    cases el
    rw [qJ9] at eys
    subst eys
    refine .inl ⟨io.stop H2 μ2 _ sr2 st2 hw,?_⟩
    have hA0:H A=none:=by
     cases q:H A with
     | none=>rfl
     | some o =>
      by_cases hm:A∈μ
      ·exact absurd (st0.mem hm) nA
      ·rw [st0.fr A o hm q] at hA; cases hA
    have sr3:=sr2.adopt nA2 hA2 racc
    refine y (.ref A) H2 (μ2++[A]) sr3 ((st0.trans st2 sr2.nd).adopt hA0) ?_
    unfold RV
    exact ⟨A,rfl,by rw [← sr2.len,qB6 (qB0 _),qJ6]; rfl⟩
   ·cases el
 ·cases f0
end
noncomputable def keyT:D→Option (List Key)
 | .tup xs=>xs.mapM zER
 | _=>none
noncomputable def sq2 (S:zA0):D→Option (List D)
 | .tup xs=>some xs
 | .lst n=>zA6 S n
 | _=>none
noncomputable def zHq (kvs ps:List (List Key × D)):List (List Key × D):=ps.foldl (fun acc q=>putD acc q.1 q.2) kvs
noncomputable def mkCd (kvs:List (List Key × D)):D:=.cd (kvs.map (·.1)) (kvs.map (·.2))
noncomputable def zFo (a:CA):C:=fun ρ=>bnd (a ρ) fun xs S=>match xs with
 | [x,y]=>match sq2 S x,sq2 S y with
  | some ks0,some vs0=>match ks0.mapM keyT with
   | some kks=>if kks.length≤lim then .ok (mkCd (zHq [] (kks.zip vs0))) S else .bad
   | none=>.bad
  | _,_=>.bad
 | _=>.bad
section
variable {K:W.Frag}{H:Hp}{μ:List Addr}
theorem zSZ {S:zA0}{x:D}{v:V}{xs:List D} (sr:SR K μ S H) (r:RV K H μ x v) (e:sq2 S x=some xs):∃ a b vs,v=.ref a∧SqX b K H a vs∧RVs K H μ xs vs:=by
 unfold sq2 at e
 split at e
 ·cases e
  unfold RV at r; obtain ⟨a,vs,rfl,q,rr⟩:=r
  exact ⟨a,true,vs,rfl,SqT.of q,rr⟩
 ·unfold RV at r; obtain ⟨a,rfl,hm⟩:=r
  obtain ⟨vs,q,rr⟩:=sr.sq hm e
  exact ⟨a,false,vs,rfl,q,rr⟩
 ·cases e
theorem zT8:∀ {ds:List D}{vs:List V}{kks:List (List Key)},RVs K H μ ds vs→ds.mapM keyT=some kks→KRw H kks vs
 | [],vs,kks,r,e=>by
  simp at e; subst e
  have:=r.nil_inv
  subst this
  exact .nil
 | d::ds,vs,kks,r,e=>by
  rw [qF8] at e
  obtain ⟨k,e1,e⟩:=qA3.mp e
  obtain ⟨ks,e2,e⟩:=qA3.mp e
  cases e
  unfold RVs at r
  obtain ⟨v,ws,rfl,r1,r2⟩:=r
  refine .cons ?_ (zT8 r2 e2)
  cases d with
  | tup xs =>
   unfold RV at r1; obtain ⟨p,us,rfl,q,rr⟩:=r1
   have:=zJk e1 rr
   subst this
   exact ⟨p,rfl,q⟩
  | _=>cases e1
theorem zNc:∀ (kks:List (List Key)) {ds:List D}{vs:List V}{kvs:List (List Key × D)}{ws:List (List Key × V)},RVs K H μ ds vs→RKs K H μ kvs ws→RKs K H μ (zHq kvs (kks.zip ds)) (zFS ws (kks.zip vs))
 | [],ds,vs,kvs,ws,_,r=>by simpa [zHq,zFS] using r
 | k::kks,ds,vs,kvs,ws,rv,r=>by
  cases ds with
  | nil =>
   have:=rv.nil_inv
   subst this
   simpa [zHq,zFS] using r
  | cons d ds =>
   unfold RVs at rv
   obtain ⟨v,us,rfl,r1,r2⟩:=rv
   exact zNc kks r2 (r.put (k:=k) r1)
end
theorem zNJ {X:Cx}{a b:Expr}{ca:CA}{p p2 pos pos2:Pos} (h:PE X (.Call (.Name "dict" p) [.Call (.Name "zip" p2) [a,b] [] pos2] [] pos) (zMH X.K (tOfA X.K ca))):PE X (.Call (.Name "dict" p) [.Call (.Name "zip" p2) [a,b] [] pos2] [] pos) (tOf X.K (zFo ca)):=h.weak (by
 rintro σ H Q ⟨μ,ρ,S,d,S',sr,re,e,y⟩
 obtain ⟨xs,S1,e1,e⟩:=zAb e
 refine ⟨μ,ρ,S,xs,S1,sr,re,e1,fun vs H1 μ1 sr1 st1 r1=>?_⟩
 try dsimp only at e
 split at e
 ·rename_i x1 x2
  split at e
  ·rename_i ys zs h1 h2
   split at e
   ·rename_i kks hk
    split at e
    ·rename_i hl
     cases e
     obtain ⟨v,u,rfl,r2,r3⟩:=r1.two
     obtain ⟨a,b1,as,rfl,q1,g1⟩:=zSZ sr1 r2 h1
     obtain ⟨b,b2,bs,rfl,q2,g2⟩:=zSZ sr1 r3 h2
     have kr:=zT8 g1 hk
     refine ⟨a,b,b1,b2,as,bs,kks,rfl,q1,q2,kr,by rw [← kr.length]; exact qC6 hl (by decide),fun q o hq=>?_⟩
     obtain ⟨s1,s2⟩:=sr1.other (o:=.frz o (.dT (zFS [] (kks.zip bs)))) hq
     have rk:RKs X.K (upd H1 q (.frz o (.dT (zFS [] (kks.zip bs))))) μ1 (zHq [] (kks.zip zs)) (zFS [] (kks.zip bs)):=zNc kks (RVs.up s2.tk s2.ext _ _ g2) .nil
     refine (y.shift st1) _ _ μ1 s1 s2 ?_
     unfold mkCd RV
     exact ⟨q,o,_,rfl,zAV,rk.1.symm,rk.2⟩
    ·cases e
   ·cases e
  ·cases e
 ·cases e)
open PySem PySem.Spec PyProof.Rows
structure Sc where
 N:List Str
 names:List (Str × NameKind)
 fn:Option Str
structure XOk (X:Cx) (sc:Sc) (ar:Str→Option Nat) (cl:Str→List D→M D) (k:Nat):Prop where
 calm:X.calm=true
 N:X.N=sc.N
 nd:sc.N.Nodup
 gl:∀ x,sc.names.lookup x=some .globalImplicit→Gl X x
 loc:∀ x,sc.names.lookup x=some .local→X.env.scope.names.lookup x=some .local
 cel:∀ x,sc.names.lookup x=some .cell→X.env.scope.names.lookup x=some .cell
 fre:∀ x,sc.names.lookup x=some .free→X.env.scope.names.lookup x=some .cell∨X.env.scope.names.lookup x=some .free
 fnn:sc.fn.isSome=true→∀ x,X.fn x=true
 room:Room k X.A
 xe:X.xe=fun _ _=>False
 blt:∀ x:Str,x∈(["len","range","list","tuple","min","max","zip","isinstance","all","any","int","bool","enumerate","str","sorted","dict","sum","repr","set","abs"]:List Str)→ar x=none→X.mg x=none
 fns:∀ x n,ar x=some n→(∃ ps,zIU X.prog X.w X.K X.mg X.base x ps k (spOf X.K (cl x) n))∧∀ ds S d S',cl x ds S=.ok d S'→ds.length=n
section
variable {X:Cx}{sc:Sc}{ar:Str→Option Nat}{cl:Str→List D→M D}{k:Nat}
theorem XOk.vis (h:XOk X sc ar cl k) {x:Str} (hv:sc.names.lookup x=some .local∨sc.names.lookup x=some .cell∨sc.names.lookup x=some .free):Vis X.env.scope x:=by
 rcases hv with q | q | q
 ·exact .inl (h.loc x q)
 ·exact .inr (.inl (h.cel x q))
 ·exact .inr (h.fre x q)
noncomputable def zUZ (o:Option NameKind):Bool:=o == some .local||o == some .cell||o == some .free
theorem zSp {o:Option NameKind} (h:zUZ o=true):o=some .local∨o=some .cell∨o=some .free:=by
 unfold zUZ at h
 simp only [qG9,beq_iff_eq] at h
 rcases h with (h | h) | h
 ·exact .inl h
 ·exact .inr (.inl h)
 ·exact .inr (.inr h)
noncomputable def zG7:List Str→Str→Nat→Option Nat
 | [],_,_=>none
 | y::r,x,i=>if y=x then some i else zG7 r x (i+1)
theorem zEo:∀ {N:List Str}{x:Str}{i j:Nat},zG7 N x i=some j→i≤j∧N[j - i]?=some x
 | [],_,_,_,h=>by cases h
 | y::r,x,i,j,h=>by
  unfold zG7 at h
  split at h
  ·rename_i e; cases h; subst e; exact ⟨qB0 _,by simp⟩
  ·obtain ⟨h1,h2⟩:=zEo h
   refine ⟨by omega,?_⟩
   have e:j - i=(j - (i+1))+1:=by omega
   rw [e,qE1]; exact h2
noncomputable def zVp (sc:Sc) (ar:Str→Option Nat) (x:Str):Option C:=match zG7 sc.N x 0 with
 | some i=>if zUZ (sc.names.lookup x)&&!(x == ("__debug__":Str))&&!(x == ("__classdict__":Str)) then some (cVar i) else none
 | none=>if sc.names.lookup x=some .globalImplicit∧ar x=none then
   (if x=("int":Str) then some (cCon (.ty "int")) else if x=("bool":Str) then some (cCon (.ty "bool")) else if x=("tuple":Str) then some (cCon (.ty "tuple"))
    else if x=("list":Str) then some (cCon (.ty "list")) else if x=("str":Str) then some (cCon (.ty "str")) else none)
  else none
theorem zWw (h:XOk X sc ar cl k) {x:Str}{pos:Pos}{c:C} (e:zVp sc ar x=some c):PE X (.Name x pos) (tOf X.K c):=by
 unfold zVp at e
 split at e
 ·rename_i i hi
  split at e
  ·rename_i hv
   cases e
   simp only [qC7,qJ0] at hv
   obtain ⟨⟨h1,h2⟩,h3⟩:=hv
   have:=(zEo hi).2
   exact zWo (zWR (by rw [h.N]; exact this) (h.vis (zSp h1)) h2 h3)
  ·cases e
 ·split at e
  ·rename_i hg
   have g:=h.gl x hg.1
   have ty:∀ (n:String) (b:bootBuiltins x=some (.type n)) (hn:x ≠ "__name__") (hd:(x == ("__debug__":Str))=false) (hm:X.mg x=none),PE X (.Name x pos) (tOf X.K (cCon (.ty n))):=fun n b hn hd hm =>
    zK0 (zUy (v:=.ty n) g hm b rfl hn hd) fun K H μ=>by unfold RV; rfl
   split at e
   ·rename_i q; subst q; cases e
    exact ty "int" zTt (by decide +kernel) (by decide +kernel) (h.blt _ (by decide +kernel) hg.2)
   ·split at e
    ·rename_i q; subst q; cases e
     exact ty "bool" zVw (by decide +kernel) (by decide +kernel) (h.blt _ (by decide +kernel) hg.2)
    ·split at e
     ·rename_i q; subst q; cases e
      exact ty "tuple" zNu (by decide +kernel) (by decide +kernel) (h.blt _ (by decide +kernel) hg.2)
     ·split at e
      ·rename_i q; subst q; cases e
       exact ty "list" zMm (by decide +kernel) (by decide +kernel) (h.blt _ (by decide +kernel) hg.2)
      ·split at e
       ·rename_i q; subst q; cases e
        exact ty "str" zYm (by decide +kernel) (by decide +kernel) (h.blt _ (by decide +kernel) hg.2)
       ·cases e
  ·cases e
noncomputable def zTr:Const→Option C
 | .none=>some (cCon .non)
 | .bool b=>some (cCon (.bl b))
 | .int i=>some (cCon (.int i))
 | .str x=>some (cCon (.str x))
 | _=>none
theorem zU1 {v:Const}{j:Nat}{pos:Pos}{c:C} (e:zTr v=some c):PE X (.Constant v j pos) (tOf X.K c):=by
 cases v with
 | none=>cases e; exact zK0 zWW fun _ _ _=>zGX
 | bool b=>cases e; exact zK0 zZZ fun _ _ _=>zDY
 | int i=>cases e; exact zK0 zWY fun _ _ _=>zBO
 | str x=>cases e; exact zK0 zWT fun _ _ _=>zT1
 | _=>cases e
noncomputable def zXu:Operator→Option (D→D→M D)
 | .Add=>some oAdd
 | .Sub=>some (oInt fun i j=>i - j)
 | .Mult=>some oMul
 | .Mod=>some oMod
 | .FloorDiv=>some oDiv
 | .Pow=>some oPow
 | .LShift=>some oShl
 | .RShift=>some oShr
 | .BitAnd=>some (oInt Builtin.bitAnd)
 | .BitOr=>some (oInt Builtin.bitOr)
 | .BitXor=>some (oInt Builtin.bitXor)
 | _=>none
theorem s_op {op:Operator}{o:D→D→M D} (e:zXu op=some o):OpS X.K (rAny X (binaryOp op)) o:=by
 cases op with
 | Add=>cases e; exact zXb
 | Sub=>cases e; exact zX3
 | Mult=>cases e; exact zX7
 | Mod=>cases e; exact zX8
 | FloorDiv=>cases e; exact zX9
 | Pow=>cases e; exact zX6
 | LShift=>cases e; exact zX5
 | RShift=>cases e; exact zX4
 | BitAnd=>cases e; exact zXa
 | BitOr=>cases e; exact za2
 | BitXor=>cases e; exact zX2
 | _=>cases e
noncomputable def zS8:CmpOp→Option (D→D→M D)
 | .Eq=>some oEq
 | .NotEq=>some oNe
 | .Lt=>some oLt
 | .LtE=>some (oCmp fun i j=>decide (i≤j))
 | .Gt=>some (oCmp fun i j=>decide (j<i))
 | .GtE=>some (oCmp fun i j=>decide (j≤i))
 | .Is=>some oIs
 | .IsNot=>some zKm
 | .In=>some (oIn false)
 | .NotIn=>some (oIn true)
theorem zNL (h:Room k X.A) {op:CmpOp}{o:D→D→M D} (e:zS8 op=some o):OpS X.K (rAny X (compareOp op)) o:=by
 have h1:=h.units
 have h2:=h.units0
 have h3:X.A.units+1<cLine:=zV0 h
 cases op with
 | Eq=>cases e; exact zab h1
 | NotEq=>cases e; exact za3 h1
 | Lt=>cases e; exact za4 h2
 | LtE=>cases e; exact za5
 | Gt=>cases e; exact za9
 | GtE=>cases e; exact zaa
 | Is=>cases e; exact za7
 | IsNot=>cases e; exact zS5
 | In=>cases e; exact za8 h1
 | NotIn=>cases e; exact zS4 h1
noncomputable def zBt:Expr→Bool
 | .Starred _ _=>false
 | _=>true
theorem zAt {a:Expr}{es:List Expr}{env:Env} (h:zBt a=true):starEach (a::es) env=(false,eval a env)::starEach es env:=by
 cases a <;> first | rfl | cases h
noncomputable def zA1? (f:Expr→Option C):List Expr→Option (List C)
 | []=>some []
 | e::es=>if zBt e then (f e).bind fun c=>(zA1? f es).map (c::·) else none
def zEj (X:Cx) (f:Expr→Option C):Prop:=∀ e c,f e=some c→PE X e (tOf X.K c)
variable {f:Expr→Option C}
theorem zDW (hf:zEj X f):∀ {es:List Expr}{cs:List C},zA1? f es=some cs→PA X es (tOfA X.K (zA1 cs))∧(∀ e∈es,zBt e=true)
 | [],cs,e=>by cases e; exact ⟨zPj,by simp⟩
 | a::es,cs,e=>by
  unfold zA1? at e
  split at e
  ·rename_i hs
   obtain ⟨c,e1,e⟩:=qA3.mp e
   obtain ⟨cs',e2,e⟩:=qA1.mp e
   subst e
   obtain ⟨h1,h2⟩:=zDW hf e2
   exact ⟨zJ7 (hf a c e1) h1 (zAt hs),fun e he=>by
    rcases qB7.mp he with rfl | he
    ·exact hs
    ·exact h2 e he⟩
  ·cases e
theorem zFK {es:List Expr}{env:Env}{pos:Pos} (h:∀ e∈es,zBt e=true):(backTo pos (starEach es env)).any (·.1)=false:=by
 induction es with
 | nil=>rfl
 | cons a es ih =>
  rw [zAt (h a (by simp))]
  show (false||(backTo pos (starEach es env)).any (·.1))=false
  rw [ih fun e he=>h e (by simp [he])]; rfl
noncomputable def zHf:Expr→Bool
 | .Slice _ _ _ _=>true
 | _=>false
theorem zUr {b:Expr} (h:zHf b=false):zMv b:=by
 cases b <;> first | (intro o i; rfl) | cases h
noncomputable def zEY? (f:Expr→Option C):Option Expr→Option CO
 | none=>some zCM
 | some e=>(f e).map zEY
theorem zT0 (hf:zEj X f) {e:Option Expr}{c:CO} (h:zEY? f e=some c):PO X e (tOfO X.K c):=by
 cases e with
 | none=>cases h; exact zTN
 | some a =>
  obtain ⟨ca,e1,e2⟩:=qA1.mp h
  subst e2
  exact zTM (hf a ca e1)
noncomputable def cSub (f:Expr→Option C) (a b:Expr):Option C:=match b with
 | .Slice lo hi none _=>(f a).bind fun ca=>(zEY? f lo).bind fun cl=>(zEY? f hi).map fun ch=>cSl oSl ca cl ch
 | _=>if zHf b then none else (f a).bind fun ca=>(f b).map fun cb=>cBin oIx ca cb
theorem zZx (h:Room k X.A) (hf:zEj X f) {a b:Expr}{pos:Pos}{c:C} (e:cSub f a b=some c):PE X (.Subscript a b pos) (tOf X.K c):=by
 unfold cSub at e
 split at e
 ·obtain ⟨ca,e1,e⟩:=qA3.mp e
  obtain ⟨cl,e2,e⟩:=qA3.mp e
  obtain ⟨ch,e3,e⟩:=qA1.mp e
  subst e
  exact zRD zZq (hf a ca e1) (zT0 hf e2) (zT0 hf e3)
 ·split at e
  ·cases e
  ·rename_i hs
   obtain ⟨ca,e1,e⟩:=qA3.mp e
   obtain ⟨cb,e2,e⟩:=qA1.mp e
   subst e
   exact zZv (za6 (zV0 h)) (hf a ca e1) (hf b cb e2) (zUr (by simpa using hs))
noncomputable def zFp (f:Expr→Option C) (a:Expr) (ops:List CmpOp) (bs:List Expr):Option C:=match ops,bs with
 | [op],[b]=>if behindInMarks op b then none else (zS8 op).bind fun o=>(f a).bind fun ca=>(f b).map fun cb=>cBin o ca cb
 | [op,op'],[b,c]=>if lastMarks [op,op'] [b,c] then none else (zS8 op).bind fun o=>(zS8 op').bind fun o'=>(f a).bind fun ca=>(f b).bind fun cb=>(f c).map fun cc=>zFq o o' ca cb cc
 | _,_=>none
theorem zPm (h:Room k X.A) (hf:zEj X f) {a:Expr}{ops:List CmpOp}{bs:List Expr}{pos:Pos}{c:C} (e:zFp f a ops bs=some c):PE X (.Compare a ops bs pos) (tOf X.K c):=by
 unfold zFp at e
 split at e
 ·rename_i op b
  split at e
  ·cases e
  ·rename_i hm
   obtain ⟨o,e0,e⟩:=qA3.mp e
   obtain ⟨ca,e1,e⟩:=qA3.mp e
   obtain ⟨cb,e2,e⟩:=qA1.mp e
   subst e
   exact zWs (zNL h e0) (hf a ca e1) (hf b cb e2) (by simpa using hm)
 ·rename_i op op' b c
  split at e
  ·cases e
  ·rename_i hm
   obtain ⟨o,e0,e⟩:=qA3.mp e
   obtain ⟨o',e0',e⟩:=qA3.mp e
   obtain ⟨ca,e1,e⟩:=qA3.mp e
   obtain ⟨cb,e2,e⟩:=qA3.mp e
   obtain ⟨cc,e3,e⟩:=qA1.mp e
   subst e
   exact zRF (zNL h e0) (zNL h e0') (hf a ca e1) (hf b cb e2) (hf c cc e3) (by simpa using hm)
 ·cases e
noncomputable def zJ2 (f:Expr→Option C) (a:Expr) (ops:List CmpOp) (bs:List Expr):Option CT:=match ops,bs with
 | ops,bs=>(zFp f a ops bs).map zAB
theorem zNK (h:Room k X.A) (hf:zEj X f) {a:Expr}{ops:List CmpOp}{bs:List Expr}{pos:Pos}{c:CT} (e:zJ2 f a ops bs=some c):PT X (.Compare a ops bs pos) (tOfT X.K c):=by
 unfold zJ2 at e
 split at e
 ·obtain ⟨cc,e1,e⟩:=qA1.mp e
  subst e
  unfold zFp at e1
  split at e1
  ·split at e1
   ·cases e1
   ·rename_i hm
    obtain ⟨o,e0,e⟩:=qA3.mp e1
    obtain ⟨ca,g1,e⟩:=qA3.mp e
    obtain ⟨cb,e2,e⟩:=qA1.mp e
    subst e
    exact zW9 (zNL h e0) (hf _ ca g1) (hf _ cb e2) (by simpa using hm)
  ·split at e1
   ·cases e1
   ·rename_i hm
    obtain ⟨o,e0,e⟩:=qA3.mp e1
    obtain ⟨o',e0',e⟩:=qA3.mp e
    obtain ⟨ca,g1,e⟩:=qA3.mp e
    obtain ⟨cb,e2,e⟩:=qA3.mp e
    obtain ⟨cc,e3,e⟩:=qA1.mp e
    subst e
    exact zRv (zNL h e0) (zNL h e0') (hf _ ca g1) (hf _ cb e2) (hf _ cc e3) (by simpa using hm)
  ·cases e1
noncomputable def zKg:Expr→Bool
 | .Name _ _=>true
 | .Subscript _ _ _=>true
 | .Call _ (_::_) _ _=>true
 | _=>false
theorem zVC {o:Expr}{name:Str}{env:Env} (h:zKg o=true):attributeBase o name env (eval o env)=eval o env:=by
 cases o with
 | Call f args kw pos =>
  cases args with
  | nil=>cases h
  | cons a r=>cases f <;> rfl
 | _=>first | rfl | cases h
noncomputable def zOL (x:Str):Expr→Option (List Expr)
 | .Call (.Name y _) [a,b] [] _=>if x=("dict":Str)∧y=("zip":Str) then some [a,b] else none
 | _=>none
noncomputable def zSP (x:Str):Option (List D→M D) :=
 if x=("len":Str) then some fLen else
 if x=("isinstance":Str) then some zC3 else
 if x=("tuple":Str) then some zAh else
 if x=("list":Str) then some zQx else
 if x=("min":Str) then some fMin else
 if x=("max":Str) then some fMax else
 if x=("all":Str) then some (zEF fun bs=>bs.all id) else
 if x=("any":Str) then some (zEF fun bs=>bs.any id) else
 if x=("int":Str) then some fInt else
 if x=("sorted":Str) then some zCL else
 none
noncomputable def zKf:Expr→Option (List Expr)
 | .Call (.Name x _) as [] _=>if x=("range":Str) then some as else none
 | _=>none
noncomputable def zDL:List D→M D:=fun xs S=>match xs with
 | [.int j]=>if -4611686018427387904≤j∧j<4611686018427387904∧j≤1000 then .ok (.lst S.length) (S++[.lst (upD 0 j.toNat)]) else .bad
 | [.int i,.int j]=>if -4611686018427387904≤i∧i<4611686018427387904∧-4611686018427387904≤j∧j<4611686018427387904∧j - i≤1000 then .ok (.lst S.length) (S++[.lst (upD i (j - i).toNat)]) else .bad
 | _=>.bad
noncomputable def zR6 (sc:Sc) (ar:Str→Option Nat) (cl:Str→List D→M D) (f:Expr→Option C) (x:Str) (es:List Expr):Option C :=
 if sc.names.lookup x=some .globalImplicit then
  match ar x with
  | some n=>if es.length=n∧es≠[]∧(x == ("__debug__":Str))=false then (zA1? f es).map fun cs=>cApp (cl x) (zA1 cs) else none
  | none=>match es with
   | [e] =>
    match zOL x e with
    | some as=>if ar "zip"=none∧sc.names.lookup ("zip":Str)=some .globalImplicit then (zA1? f as).map fun cs=>zFo (zA1 cs) else none
    | none =>
    match zKf e with
    | some as=>if x=("list":Str)∧ar "range"=none∧sc.names.lookup ("range":Str)=some .globalImplicit∧(as.length=1∨as.length=2) then (zA1? f as).map fun cs=>cApp zDL (zA1 cs) else none
    | none=>(zSP x).bind fun o=>(zA1? f es).map fun cs=>cApp o (zA1 cs)
   | _::_=>(zSP x).bind fun o=>(zA1? f es).map fun cs=>cApp o (zA1 cs)
   | []=>none
 else none
theorem zRq {K:W.Frag}{H:Hp}{μ:List Addr} (lo:Int) (n:Nat):RVs K H μ (upD lo n) (upV lo n):=by
 unfold upD upV
 generalize List.range n=l
 induction l with
 | nil=>exact .nil
 | cons a r ih=>exact .cons zBO ih
set_option maxHeartbeats 2000000 in
theorem zWy (h:XOk X sc ar cl k) {x:Str} (hx:sc.names.lookup x=some .globalImplicit) (hn:ar x=none) {o:List D→M D} (eo:zSP x=some o) {e:Expr}{es:List Expr}{cs:List C} (ha:PA X (e::es) (tOfA X.K (zA1 cs))) (hs:∀ a∈e::es,zBt a=true) {p pos:Pos}:PE X (.Call (.Name x p) (e::es) [] pos) (tOf X.K (cApp o (zA1 cs))):=by
 have g:=h.gl x hx
 have s1:=zAt (es:=es) (env:=X.env) (hs e (by simp))
 have s2:(backTo pos (starEach es X.env)).any (·.1)=false:=zFK fun a ha=>hs a (by simp [ha])
 unfold zSP at eo
 have B:∀ (id:String) (hb:bootBuiltins x=some (.builtin id)) (hm:X.mg x=none) (hne:x ≠ "__name__") (hd:(x == ("__debug__":Str))=false) (o:List D→M D),zFx X.K (cAny X (.builtin id)) o→PE X (.Call (.Name x p) (e::es) [] pos) (tOf X.K (cApp o (zA1 cs))):=fun id hb hm hne hd o ho =>
  (zS1 zJw g hm hb ha hne hd s1 s2).weak (zT6 ho)
 have T:∀ (id:String) (hb:bootBuiltins x=some (.type id)) (hm:X.mg x=none) (hne:x ≠ "__name__") (hd:(x == ("__debug__":Str))=false) (o:List D→M D),zFx X.K (cAny X (.type id)) o→PE X (.Call (.Name x p) (e::es) [] pos) (tOf X.K (cApp o (zA1 cs))):=fun id hb hm hne hd o ho =>
  (zH4 zJw g hm hb ha hne hd s1 s2).weak (zT6 ho)
 split at eo
 ·rename_i q; subst q; cases eo; exact B "len" zYp (h.blt _ (by decide +kernel) hn) (by decide +kernel) (by decide +kernel) _ zYc
 split at eo
 ·rename_i q; subst q; cases eo; exact B "isinstance" zJx (h.blt _ (by decide +kernel) hn) (by decide +kernel) (by decide +kernel) _ zVh
 split at eo
 ·rename_i q; subst q; cases eo; exact T "tuple" zNu (h.blt _ (by decide +kernel) hn) (by decide +kernel) (by decide +kernel) _ zSH
 split at eo
 ·rename_i q; subst q; cases eo; exact T "list" zMm (h.blt _ (by decide +kernel) hn) (by decide +kernel) (by decide +kernel) _ zVg
 split at eo
 ·rename_i q; subst q; cases eo; exact B "min" zYn (h.blt _ (by decide +kernel) hn) (by decide +kernel) (by decide +kernel) _ (zYa h.calm)
 split at eo
 ·rename_i q; subst q; cases eo; exact B "max" zYo (h.blt _ (by decide +kernel) hn) (by decide +kernel) (by decide +kernel) _ (zYb h.calm)
 split at eo
 ·rename_i q; subst q; cases eo; exact B "all" zYr (h.blt _ (by decide +kernel) hn) (by decide +kernel) (by decide +kernel) _ (zYf h.calm)
 split at eo
 ·rename_i q; subst q; cases eo; exact B "any" zYq (h.blt _ (by decide +kernel) hn) (by decide +kernel) (by decide +kernel) _ (zYe h.calm)
 split at eo
 ·rename_i q; subst q; cases eo; exact T "int" zTt (h.blt _ (by decide +kernel) hn) (by decide +kernel) (by decide +kernel) _ zYd
 split at eo
 ·rename_i q; subst q; cases eo; exact B "sorted" (by decide +kernel) (h.blt _ (by decide +kernel) hn) (by decide +kernel) (by decide +kernel) _ (zQM h.calm)
 cases eo
theorem zTZ (h:XOk X sc ar cl k) (hx:sc.names.lookup ("list":Str)=some .globalImplicit) (hn:ar "list"=none) (hr:sc.names.lookup ("range":Str)=some .globalImplicit) (hnr:ar "range"=none) {as:List Expr}{cs:List C} (ha:PA X as (tOfA X.K (zA1 cs))) (hs:∀ a∈as,zBt a=true) (hl:as.length=1∨as.length=2) {p pos p2 pos2:Pos} :
  PE X (.Call (.Name "list" p) [.Call (.Name "range" p2) as [] pos2] [] pos) (tOf X.K (cApp zDL (zA1 cs))):=by
 have g1:=h.gl _ hx
 have g2:=h.gl _ hr
 have R:PE X (.Call (.Name "range" p2) as [] pos2) (tCB (cAny X (.type "range")) (tOfA X.K (zA1 cs))):=by
  cases as with
  | nil=>simp at hl
  | cons e es=>exact zH4 zJw g2 (h.blt _ (by decide +kernel) hnr) zSO ha (by decide +kernel) (by decide +kernel) (zAt (hs e (by simp))) (zFK fun a ha=>hs a (by simp [ha]))
 have L:=zH4 (p:=p) (pos:=pos) (zJw (X:=X) (f:=.type "list")) g1 (h.blt _ (by decide +kernel) hn) zMm (zPA R zT5 rfl) (by decide +kernel) (by decide +kernel) rfl rfl
 refine L.weak ?_
 rintro σ H Q ⟨μ,ρ,S,d,S',sr,re,e,y⟩
 obtain ⟨xs,S1,e1,e⟩:=zAb e
 refine ⟨μ,ρ,S,xs,S1,sr,re,e1,fun vs H1 μ1 sr1 st1 r1=>?_⟩
 have y1:=y.shift st1
 have fin:∀ (i j:Int),-4611686018427387904≤i→i<4611686018427387904→-4611686018427387904≤j→j<4611686018427387904→j - i≤1000→Yld X.K μ1 H1 (.lst S1.length) (S1++[.lst (upD i (j - i).toNat)]) Q→∀ q,H1 q=none→cAny X (.type "list") [.ref q] (upd H1 q (.rng i j)) Q:=by
  intro i j b1 b2 b3 b4 b5 y1 q hq
  obtain ⟨sr2,st2⟩:=sr1.other (o:=.rng i j) hq
  exact ⟨_,zJv h.calm,q,i,j,rfl,zAV,b1,b2,b3,b4,by omega,fun l hl=>(y1.shift st2).newL sr2 hl (zRq _ _)⟩
 unfold zDL at e
 split at e
 ·rename_i j
  split at e
  ·rename_i hb
   cases e
   obtain ⟨v,rfl,r⟩:=r1.one
   unfold RV at r; subst r
   refine ⟨_,zMj,j,rfl,fun q hq=>?_⟩
   have:=fin 0 j (by decide) (by decide) hb.1 hb.2.1 (by omega) (by rw [Int.sub_zero]; exact y1) q hq
   exact this
  ·cases e
 ·rename_i i j
  split at e
  ·rename_i hb
   cases e
   obtain ⟨v,u,rfl,r,r'⟩:=r1.two
   unfold RV at r r'; subst r r'
   exact ⟨_,zMi,i,j,rfl,fun q hq=>fin i j hb.1 hb.2.1 hb.2.2.1 hb.2.2.2.1 hb.2.2.2.2 y1 q hq⟩
  ·cases e
 ·cases e
theorem zU3 (h:XOk X sc ar cl k) (hf:zEj X f) {x:Str}{es:List Expr}{c:C}{p pos:Pos} (e:zR6 sc ar cl f x es=some c):PE X (.Call (.Name x p) es [] pos) (tOf X.K c):=by
 unfold zR6 at e
 split at e
 ·rename_i hx
  split at e
  ·rename_i n hn
   split at e
   ·rename_i hc
    obtain ⟨hl,hne,hd⟩:=hc
    obtain ⟨cs,e1,e⟩:=qA1.mp e
    subst e
    obtain ⟨h1,h2⟩:=zDW hf e1
    obtain ⟨⟨ps,Ca⟩,hlen⟩:=h.fns x n hn
    cases es with
    | nil=>exact absurd rfl hne
    | cons a es =>
     exact (zS0 (p:=p) (pos:=pos) Ca h.room (h.gl x hx) h1 (qB0 _) hd (zAt (h2 a (by simp))) (zFK fun b hb=>h2 b (by simp [hb]))).weak (zUI hlen)
   ·cases e
  ·rename_i hn
   split at e
   ·rename_i a
    split at e
    ·rename_i as ha
     split at e
     ·rename_i hc
      obtain ⟨hnz,hz⟩:=hc
      obtain ⟨cs,e1,e⟩:=qA1.mp e
      subst e
      unfold zOL at ha
      split at ha
      ·split at ha
       ·rename_i q
        obtain ⟨rfl,rfl⟩:=q
        cases ha
        obtain ⟨h1,h2⟩:=zDW hf e1
        exact zNJ (zNR h.calm (by have:=h.room.units; omega) (h.gl _ hx) (h.blt _ (by decide +kernel) hn) (h.gl _ hz) (h.blt _ (by decide +kernel) hnz) h1 (by rw [zAt (h2 _ (by simp)),zAt (h2 _ (by simp))]; rfl) (by rw [zAt (h2 _ (by simp))]; rfl))
       ·cases ha
      ·cases ha
     ·cases e
    split at e
    ·rename_i as ha
     split at e
     ·rename_i hc
      obtain ⟨rfl,hnr,hr,hl⟩:=hc
      obtain ⟨cs,e1,e⟩:=qA1.mp e
      subst e
      obtain ⟨h1,h2⟩:=zDW hf e1
      unfold zKf at ha
      split at ha
      ·rename_i x' p' as' pos'
       split at ha
       ·rename_i q; subst q; cases ha
        exact zTZ h hx hn hr hnr h1 h2 hl
       ·cases ha
      ·cases ha
     ·cases e
    ·obtain ⟨o,e0,e⟩:=qA3.mp e
     obtain ⟨cs,e1,e⟩:=qA1.mp e
     subst e
     obtain ⟨h1,h2⟩:=zDW hf e1
     exact zWy h hx hn e0 h1 h2
   ·obtain ⟨o,e0,e⟩:=qA3.mp e
    obtain ⟨cs,e1,e⟩:=qA1.mp e
    subst e
    obtain ⟨h1,h2⟩:=zDW hf e1
    exact zWy h hx hn e0 h1 h2
   ·cases e
 ·cases e
end
open PySem PySem.Spec PyProof.Rows
section
variable {X:Cx}{sc:Sc}{ar:Str→Option Nat}{cl:Str→List D→M D}{k:Nat}{f:Expr→Option C}
noncomputable def zXD (m:Str) (co:C):Option C :=
 none
noncomputable def zXC (m:Str) (co ca:C):Option C :=
 if m=("append":Str) then some (zG1 "list" (zDz zC2) co (zA1 [ca])) else
 if m=("extend":Str) then some (zG1 "list" zCK co (zA1 [ca])) else
 none
noncomputable def zXB (m:Str) (co ca cb:C):Option C :=
 if m=("insert":Str) then some (zG1 "list" (zDz zDC) co (zA1 [ca,cb])) else
 none
noncomputable def zMk (f:Expr→Option C) (o:Expr) (m:Str) (es:List Expr) (apos cpos:Pos):Option C :=
 if zKg o&&(apos.endLine == cpos.line) then (f o).bind fun co=>match es with
  | []=>zXD m co
  | [a]=>if zBt a then (f a).bind fun ca=>zXC m co ca else none
  | [a,b]=>if zBt a&&zBt b then (f a).bind fun ca=>(f b).bind fun cb=>zXB m co ca cb else none
  | _=>none
 else none
theorem zRI (hr0:Room k X.A) (hf:zEj X f) {o:Expr}{m:Str}{es:List Expr}{apos cpos:Pos}{c:C} (e:zMk f o m es apos cpos=some c):PE X (.Call (.Attribute o m apos) es [] cpos) (tOf X.K c):=by
 unfold zMk at e
 split at e
 ·rename_i hc
  rw [qC7] at hc
  obtain ⟨hr,hl⟩:=hc
  obtain ⟨co,e0,g⟩:=qA3.mp e
  clear e
  have hb:∀ name,attributeBase o name X.env (eval o X.env)=eval o X.env:=fun name=>zVC hr
  split at g
  ·unfold zXD at g
   cases g
  ·rename_i a
   split at g
   ·rename_i hs
    obtain ⟨ca,e1,g'⟩:=qA3.mp g
    clear g
    have s1:=zAt (es:=[]) (env:=X.env) hs
    have hA:PA X [a] (tOfA X.K (zA1 [ca])):=zJ7 (hf a ca e1) zPj s1
    have hfew:((backTo cpos (starEach [a] X.env)).all (fun x=>!x.1)&&(backToKw cpos (keywordEach [] X.env)).all (fun x=>x.1.isSome)
     && decide ([a].length+([]:List Keyword).length+(if ([]:List Keyword).isEmpty then 0 else 1)<30))=true:=by rw [s1]; rfl
    unfold zXC at g'
    split at g'
    ·rename_i q; subst q; cases g'
     exact zLq PySem.F.plainAttrs_list PySem.F.slot_list_append PySem.F.type_list_append zPX (hf o co e0) hA (hb _) hfew hl s1 rfl
    split at g'
    ·rename_i q; subst q; cases g'
     exact zLq PySem.F.plainAttrs_list PySem.F.slot_list_extend PySem.F.type_list_extend zPW (hf o co e0) hA (hb _) hfew hl s1 rfl
    cases g'
   ·cases g
  ·rename_i a b
   split at g
   ·rename_i hs
    rw [qC7] at hs
    obtain ⟨ca,e1,g1⟩:=qA3.mp g
    obtain ⟨cb,e2,g'⟩:=qA3.mp g1
    clear g g1
    have s2:=zAt (es:=[]) (env:=X.env) hs.2
    have s1:=zAt (es:=[b]) (env:=X.env) hs.1
    have hA:PA X [a,b] (tOfA X.K (zA1 [ca,cb])):=zJ7 (hf a ca e1) (zJ7 (hf b cb e2) zPj s2) s1
    have hfew:((backTo cpos (starEach [a,b] X.env)).all (fun x=>!x.1)&&(backToKw cpos (keywordEach [] X.env)).all (fun x=>x.1.isSome)
     && decide ([a,b].length+([]:List Keyword).length+(if ([]:List Keyword).isEmpty then 0 else 1)<30))=true:=by rw [s1,s2]; rfl
    unfold zXB at g'
    split at g'
    ·rename_i q; subst q; cases g'
     exact zLq PySem.F.plainAttrs_list PySem.F.slot_list_insert PySem.F.type_list_insert zPV (hf o co e0) hA (hb _) hfew hl s1 (by rw [s2]; rfl)
    cases g'
   ·cases g
  ·cases g
 ·cases e
noncomputable def zSN:C:=fun _ S=>.ok (.dct S.length) (S++[.dk []])
theorem zTV {pos:Pos}:PE X (.Dict [] [] pos) (tOf X.K zSN):=zRY.weak (by
 rintro σ H Q ⟨μ,ρ,S,d,S',sr,re,e,y⟩
 unfold zSN at e
 cases e
 intro p hp
 obtain ⟨s1,s2⟩:=sr.push (o:=.dK []) (o':=.dk []) hp ⟨[],zAV,RKs.nil⟩
 exact y _ _ _ s1 s2 (by unfold RV; exact ⟨p,rfl,by rw [← sr.len,qB6 (qB0 _),qJ6]; rfl⟩))
noncomputable def zSM (a b:C):C:=fun ρ=>bnd (a ρ) fun x=>bnd (b ρ) fun y S=>match zER x with
 | some k=>.ok (.dct S.length) (S++[.dk [(k,y)]])
 | none=>.bad
theorem zTU {a b:Expr}{ca cb:C}{pos:Pos} (ha:PE X a (tOf X.K ca)) (hb:PE X b (tOf X.K cb)):PE X (.Dict [some a] [b] pos) (tOf X.K (zSM ca cb)):=(zUu (zRT ha hb zUo) rfl rfl (by simp) (by simp)).weak (by
 rintro σ H Q ⟨μ,ρ,S,d,S',sr,re,e,y⟩
 obtain ⟨x,S1,e1,f1⟩:=zAb e
 obtain ⟨z,S2,e2,f2⟩:=zAb f1
 split at f2
 ·rename_i key hk
  cases f2
  intro p hp
  obtain ⟨s1,s2⟩:=sr.other (o:=.dK []) hp
  refine ⟨μ,ρ,S,x,S1,s1,re.up s2,e1,fun v H1 μ1 sr1 st1 r1=>⟨μ1,ρ,S1,z,S2,sr1,(re.up s2).up st1,e2,fun u H2 μ2 sr2 st2 r2=>?_⟩⟩
  have n0:p∉μ:=sr.out hp
  have q0:upd H p (.dK []) p=some (.dK []):=zAV
  have q1:=st1.fr p _ n0 q0
  have n1:=st1.notIn n0 q0
  have q2:=st2.fr p _ n1 q1
  have n2:=st2.notIn n1 q1
  have ev:=zJl hk r1
  subst ev
  refine ⟨q2,[(key,u)],rfl,by simp,?_⟩
  have e3:zHa [] [(key,u)]=[(key,u)]:=by simp [zHa,putK]
  rw [e3]
  have tk:TF X.K H2 (upd H2 p (.dK [(key,u)])):=zME q2 (fun _ z=>by cases z) (fun _ _ z=>by cases z)
  have st12:=st1.trans st2 sr2.nd
  have st02:Step X.K μ μ2 H H2:=s2.trans st12 sr2.nd
  have sr3:SR X.K (μ2++[p]) (S2++[.dk [(key,z)]]) (upd H2 p (.dK [(key,u)])):=by
   refine ⟨by simp [sr2.len],?_,fun n a w g1 g2=>?_⟩
   ·rw [qH6]
    refine ⟨sr2.nd,by simp,fun a ha b hb=>?_⟩
    simp at hb; subst hb
    exact fun z=>n2 (z▸ha)
   ·by_cases hn:n<μ2.length
    ·rw [qC1 hn] at g1
     rw [qC1 (by rw [← sr2.len]; exact hn)] at g2
     exact (sr2.obj n a w g1 g2).up tk ⟨[p],rfl⟩ (zAi fun z=>n2 (z▸qB9 g1))
    ·rw [qB6 (by omega)] at g1
     rw [qB6 (by rw [← sr2.len]; omega)] at g2
     have h1:n - μ2.length=0:=by
      have:=(qA5.mp g1).1
      simp at this; omega
     rw [h1] at g1
     rw [← sr2.len,h1] at g2
     simp at g1 g2
     subst g1 g2
     exact ⟨[(key,u)],zAV,RKs.cons (RV.up tk ⟨[p],rfl⟩ _ _ r2) .nil⟩
  have st3:Step X.K μ (μ2++[p]) H (upd H2 p (.dK [(key,u)])):=by
   obtain ⟨ν,e4,n⟩:=st02.pre
   refine ⟨⟨ν++[p],by rw [e4,qH4],fun b hb=>?_⟩,fun b o hb q=>by rw [zAi (zBc q hp)]; exact st02.fr b o hb q,st02.tk.trans tk⟩
   rcases qD2.mp hb with h | h
   ·exact n b h
   ·simp at h; subst h; exact hp
  exact y _ _ _ sr3 st3 (by unfold RV; exact ⟨p,rfl,by rw [← sr2.len,qB6 (qB0 _),qJ6]; rfl⟩)
 ·cases f2)
noncomputable def zVr (f:Expr→Option C) (ks:List (Option Expr)) (vs:List Expr):Option C:=match ks,vs with
 | [],[]=>some zSN
 | [some a],[b]=>(f a).bind fun ca=>(f b).map fun cb=>zSM ca cb
 | _,_=>none
theorem zWx (hf:zEj X f) {ks:List (Option Expr)}{vs:List Expr}{pos:Pos}{c:C} (e:zVr f ks vs=some c):PE X (.Dict ks vs pos) (tOf X.K c):=by
 unfold zVr at e
 split at e
 ·cases e; exact zTV
 ·obtain ⟨ca,e1,e⟩:=qA3.mp e
  obtain ⟨cb,e2,e⟩:=qA1.mp e
  subst e
  exact zTU (hf _ _ e1) (hf _ _ e2)
 ·cases e
noncomputable def zNs (op:BoolOp) (f:Expr→Option C):List Expr→Option C
 | []=>none
 | [a]=>f a
 | a::b::r=>(f a).bind fun ca=>(zNs op f (b::r)).map fun cb=>match op with
  | .And=>zOt ca cb
  | .Or=>cOrV ca cb
theorem zLr (hf:zEj X f) {op:BoolOp}{pos:Pos}:∀ {vs:List Expr}{c:C},zNs op f vs=some c→PE X (.BoolOp op vs pos) (tOf X.K c)
 | [],c,e=>by cases e
 | [a],c,e=>zWU (hf a c e)
 | a::b::r,c,e=>by
  unfold zNs at e
  obtain ⟨ca,e1,e⟩:=qA3.mp e
  obtain ⟨cb,e2,e⟩:=qA1.mp e
  subst e
  cases op with
  | And=>exact zWu (hf a ca e1) (zLr hf e2)
  | Or=>exact zZu (hf a ca e1) (zLr hf e2)
def zLe (X:Cx) (t:Expr→Option CT):Prop:=∀ e c,t e=some c→PT X e (tOfT X.K c)
variable {t:Expr→Option CT}
noncomputable def zNt (op:BoolOp) (t:Expr→Option CT):List Expr→Option CT
 | []=>none
 | [a]=>t a
 | a::b::r=>(t a).bind fun ca=>(zNt op t (b::r)).map fun cb=>match op with
  | .And=>zMl ca cb
  | .Or=>cOrT ca cb
theorem zLs (ht:zLe X t) {op:BoolOp}{pos:Pos}:∀ {vs:List Expr}{c:CT},zNt op t vs=some c→PW X (.BoolOp op vs pos) (tOfT X.K c)
 | [],c,e=>by cases e
 | [a],c,e=>by
  cases op with
  | And=>exact zUa (ht a c e)
  | Or=>exact zWG (ht a c e)
 | a::b::r,c,e=>by
  unfold zNt at e
  obtain ⟨ca,e1,e⟩:=qA3.mp e
  obtain ⟨cb,e2,e⟩:=qA1.mp e
  subst e
  cases op with
  | And=>exact zW6 (ht a ca e1) (zLs ht e2)
  | Or=>exact zZp (ht a ca e1) (zLs ht e2)
noncomputable def zBu:Expr→Bool
 | .Tuple _ _ _=>true
 | _=>false
noncomputable def zLL:Expr→Bool
 | .Set _ _ _=>true
 | _=>false
theorem zHp {iter:Expr}{env:Env} (h:zLL iter=false):∀ x,foldedSetIterable iter env x=pure x:=by
 cases iter <;> first | (intro x; rfl) | cases h
noncomputable def zR4 (o:Option (List C)) (es:List Expr):Option CI:=o.bind fun cs=>match es with
 | [_]=>some (zB4 (zA1 cs))
 | [_,_]=>some (zJn (zA1 cs))
 | _=>none
noncomputable def zVn (t:Bool) (o:Option (List C)) (es:List Expr):Option CI:=if t=true then o.bind fun cs=>match es with
  | [_,_]=>some (zI2 (zA1 cs))
  | _=>none
 else none
noncomputable def zR5 (t:Bool) (o:Option (List C)) (es:List Expr):Option CI:=if t=true then o.bind fun cs=>match es with
  | [_]=>some (zKy (zA1 cs))
  | _=>none
 else none
noncomputable def zOr (sc:Sc) (ar:Str→Option Nat) (f:Expr→Option C) (tg iter:Expr):Option CI:=if zLL iter then none else match iter with
 | .Call (.Name x _) es [] _=>if sc.names.lookup x=some .globalImplicit∧ar x=none then
   (if x=("range":Str) then zR4 (zA1? f es) es else
    if x=("zip":Str) then zVn (zBu tg) (zA1? f es) es else
    if x=("enumerate":Str) then zR5 (zBu tg) (zA1? f es) es else
    (f iter).map iSeq)
  else (f iter).map iSeq
 | _=>(f iter).map iSeq
theorem zRH (hf:zEj X f) {tg:Expr}{es:List Expr}{c:CI}{p pos:Pos} (g:Gl X "range") (hm:X.mg "range"=none) (e:zR4 (zA1? f es) es=some c):PI X tg (.Call (.Name "range" p) es [] pos) (tOfI X.K c):=by
 obtain ⟨cs,e1,e2⟩:=qA3.mp e
 clear e
 obtain ⟨h1,h2⟩:=zDW hf e1
 match es,h1,h2,e2 with
 | [a],h1,h2,e2 =>
  cases e2
  exact zPg (zPw g hm h1 (by rw [zAt (h2 a (by simp))]; rfl))
 | [a,b],h1,h2,e2 =>
  cases e2
  exact zPf (zPv g hm h1 (by rw [zAt (h2 a (by simp)),zAt (h2 b (by simp))]; rfl) (by rw [zAt (h2 b (by simp))]; rfl))
 | [],h1,h2,e2=>cases e2
 | _::_::_::_,h1,h2,e2=>cases e2
theorem zQc {tg:Expr} (h:zBu tg=true):∃ es k pos,tg=.Tuple es k pos:=by
 cases tg <;> first | exact ⟨_,_,_,rfl⟩ | cases h
theorem zWv (hf:zEj X f) {tg:Expr}{es:List Expr}{c:CI}{p pos:Pos} (g:Gl X "zip") (hm:X.mg "zip"=none) (e:zVn (zBu tg) (zA1? f es) es=some c):PI X tg (.Call (.Name "zip" p) es [] pos) (tOfI X.K c):=by
 unfold zVn at e
 by_cases ht:zBu tg=true
 ·rw [if_pos ht] at e
  obtain ⟨ts,kt,pt,rfl⟩:=zQc ht
  obtain ⟨cs,e1,e2⟩:=qA3.mp e
  clear e ht
  obtain ⟨h1,h2⟩:=zDW hf e1
  match es,h1,h2,e2 with
  | [a,b],h1,h2,e2 =>
   cases e2
   exact zWj (zUs g hm h1 (by rw [zAt (h2 a (by simp)),zAt (h2 b (by simp))]; rfl) (by rw [zAt (h2 b (by simp))]; rfl))
  | _::_::_::_,h1,h2,e2=>cases e2
  | [],h1,h2,e2=>cases e2
  | [_],h1,h2,e2=>cases e2
 ·rw [if_neg ht] at e; cases e
theorem zU0 (hf:zEj X f) {tg:Expr}{es:List Expr}{c:CI}{p pos:Pos} (g:Gl X "enumerate") (hm:X.mg "enumerate"=none) (e:zR5 (zBu tg) (zA1? f es) es=some c):PI X tg (.Call (.Name "enumerate" p) es [] pos) (tOfI X.K c):=by
 unfold zR5 at e
 by_cases ht:zBu tg=true
 ·rw [if_pos ht] at e
  obtain ⟨ts,kt,pt,rfl⟩:=zQc ht
  obtain ⟨cs,e1,e2⟩:=qA3.mp e
  clear e ht
  obtain ⟨h1,h2⟩:=zDW hf e1
  match es,h1,h2,e2 with
  | [a],h1,h2,e2 =>
   cases e2
   exact zTQ (zRV g hm h1 (by rw [zAt (h2 a (by simp))]; rfl))
  | [],h1,h2,e2=>cases e2
  | _::_::_,h1,h2,e2=>cases e2
 ·rw [if_neg ht] at e; cases e
theorem zPk (h:XOk X sc ar cl k) (hf:zEj X f) {tg iter:Expr}{c:CI} (e:zOr sc ar f tg iter=some c):PI X tg iter (tOfI X.K c)∧zLL iter=false:=by
 unfold zOr at e
 split at e
 ·cases e
 rename_i hset
 refine ⟨?_,by simpa using hset⟩
 have dflt:∀ {c},(f iter).map iSeq=some c→PI X tg iter (tOfI X.K c):=fun e=>by
  obtain ⟨ca,e1,e⟩:=qA1.mp e
  subst e
  exact zWk (hf _ _ e1)
 split at e
 ·rename_i x p es pos
  split at e
  ·rename_i hx
   have g:=h.gl x hx.1
   split at e
   ·rename_i q; subst q
    exact zRH hf g (h.blt _ (by decide +kernel) hx.2) e
   split at e
   ·rename_i q; subst q
    exact zWv hf g (h.blt _ (by decide +kernel) hx.2) e
   split at e
   ·rename_i q; subst q
    exact zU0 hf g (h.blt _ (by decide +kernel) hx.2) e
   exact dflt e
  ·exact dflt e
 ·exact dflt e
noncomputable def zFL:List Expr→Option (List Str)
 | []=>some []
 | .Name x _::r=>(zFL r).map (x::·)
 | _::_=>none
noncomputable def zNE:Expr→Option (Tgt × List Str)
 | .Name x _=>some (.one,[x])
 | .Tuple es _ _=>(zFL es).map fun xs=>(.many xs.length,xs)
 | _=>none
noncomputable def zBv (ns:List (Str × NameKind)):List Str:=(ns.filter fun y=>y.2 == .free).map (·.1)
noncomputable def slots (N:List Str):List Str→Option (List Nat)
 | []=>some []
 | x::r=>(zG7 N x 0).bind fun j=>(slots N r).map (j::·)
noncomputable def zQQ (xs:List Str) (scope:Scope):Sc:=⟨xs++zBv scope.names,scope.names,none⟩
noncomputable def compOk (sc:Sc) (xs:List Str) (scope:Scope):Bool :=
 decide (scope.kind=.function)&&scope.names.all (fun y=>y.2 != .cell||scope.names.lookup y.1 == some .cell)&&scope.names.all (fun y=>y.2 != .local||scope.names.lookup y.1 == some .local)
 && decide ((xs++zBv scope.names).Nodup)&&xs.all (fun x=>scope.names.lookup x == some .local||scope.names.lookup x == some .cell)&&decide (1≤xs.length)
 && (zBv scope.names).all (fun x=>(sc.names.lookup x == some .cell||sc.names.lookup x == some .free)&&scope.names.lookup x == some .free)
noncomputable def zHG (sc:Sc) (it:Option CI) (fe:Sc→Expr→Option C) (ft:Sc→Expr→Option CT) (tg elt:Expr) (ifs:List Expr) (scope:Scope):Option C :=
 (zNE tg).bind fun p=>if compOk sc p.2 scope then (slots sc.N (zBv scope.names)).bind fun js=>it.bind fun ci=>(fe (zQQ p.2 scope) elt).bind fun ce=>match ifs with
  | []=>some (zBe ci p.2.length js p.1 (fun _=>ret true) ce)
  | [q]=>(ft (zQQ p.2 scope) q).map fun ct=>zBe ci p.2.length js p.1 ct ce
  | _=>none
 else none
theorem zJW {N:List Str}:∀ {xs:List Str}{js:List Nat},slots N xs=some js→js.length=xs.length∧∀ (i j:Nat),js[i]?=some j→∃ x,xs[i]?=some x∧N[j]?=some x
 | [],js,e=>by cases e; exact ⟨rfl,fun i j h=>by simp at h⟩
 | x::r,js,e=>by
  unfold slots at e
  obtain ⟨j0,e1,e⟩:=qA3.mp e
  obtain ⟨js',e2,e⟩:=qA1.mp e
  subst e
  obtain ⟨h1,h2⟩:=zJW e2
  refine ⟨by simp [h1],fun i j h=>?_⟩
  cases i with
  | zero=>simp at h; subst h; exact ⟨x,rfl,(zEo e1).2⟩
  | succ i =>
   rw [qE1] at h
   obtain ⟨y,g1,g2⟩:=h2 i j h
   exact ⟨y,by rw [qE1]; exact g1,g2⟩
theorem zCU {env:Env}:∀ {names:List (Str × NameKind)}{x:Str}{k:NameKind},k≠.free→names.lookup x=some k →
  (names.map fun (n,k)=>if (k == NameKind.free&&env.scope.kind == .function&&env.kindOf n == some .cell) then (n,NameKind.cell) else (n,k)).lookup x=some k
 | [],_,_,_,h=>by simp at h
 | (n,k')::r,x,k,nf,h=>by
  have ih:=@zCU env r x k nf
  show List.lookup x ((if (k' == NameKind.free&&env.scope.kind == .function&&env.kindOf n == some .cell)=true then (n,NameKind.cell) else (n,k'))::_)=_
  cases hx:x == n with
  | true =>
   simp only [qC9,hx] at h
   cases h
   have e:(k' == NameKind.free)=false:=by simpa using nf
   simp [qC9,hx,e]
  | false =>
   simp only [qC9,hx] at h
   by_cases hc:(k' == NameKind.free&&env.scope.kind == .function&&env.kindOf n == some .cell)=true
   ·rw [if_pos hc]; simp only [qC9,hx]; exact ih h
   ·rw [if_neg hc]; simp only [qC9,hx]; exact ih h
theorem zSe {ns:List (Str × NameKind)}{x:Str}{k:NameKind} (h:ns.lookup x=some k):(x,k)∈ns:=zEQ h
theorem XOk.comp (h:XOk X sc ar cl k) {xs:List Str}{scope:Scope} (hc:compOk sc xs scope=true) (cl':List (Str × Addr)) (s:Shared) (H:Hp) (C:Addr) (ex:List Addr):XOk (zCa X scope (xs++zBv scope.names) cl' s H C ex) (zQQ xs scope) ar cl k:=by
 unfold compOk at hc
 simp only [qC7,decide_eq_true_eq] at hc
 obtain ⟨⟨⟨⟨⟨⟨c1,c2⟩,c3⟩,c4⟩,c5⟩,c6⟩,c7⟩:=hc
 exact {
  calm:=h.calm
  N:=rfl
  nd:=c4
  gl:=fun x hx=>zCU (by decide) hx
  loc:=fun x hx=>zCU (by decide) hx
  cel:=fun x hx=>zCU (by decide) hx
  fre:=fun x hx=>zG9 hx
  fnn:=fun z=>by cases z
  room:=h.room
  xe:=rfl
  blt:=h.blt
  fns:=h.fns }
theorem zH6:∀ {es:List Expr}{xs:List Str},zFL es=some xs→es.length=xs.length∧∀ (i:Nat) (e:Expr),es[i]?=some e→∃ x pos,e=.Name x pos∧xs[i]?=some x
 | [],xs,h=>by cases h; exact ⟨rfl,fun i e h=>by simp at h⟩
 | a::r,xs,h=>by
  cases a with
  | Name x pos =>
   unfold zFL at h
   obtain ⟨ys,e1,e⟩:=qA1.mp h
   subst e
   obtain ⟨h1,h2⟩:=zH6 e1
   refine ⟨by simp [h1],fun i e he=>?_⟩
   cases i with
   | zero=>simp at he; subst he; exact ⟨x,pos,rfl,rfl⟩
   | succ i =>
    rw [qE1] at he
    obtain ⟨y,p,g1,g2⟩:=h2 i e he
    exact ⟨y,p,g1,by rw [qE1]; exact g2⟩
  | _=>cases h
theorem zHP {x:Str}{pos:Pos}{es:List Expr}{env:Env}:assignEach (.Name x pos::es) env=(false,assign (.Name x pos) env)::assignEach es env:=rfl
theorem zKk:∀ {es:List Expr}{s:Nat},(∀ (i:Nat) (e:Expr),es[i]?=some e→∃ x pos,e=.Name x pos∧X.N[s+i]?=some x∧Loc X.env.scope x∧(X.fn x=true∨X.env.scope.names.lookup x=some .local))→X.N.Nodup→PGs X es (zNb s es.length)
 | [],s,h,nd=>zPx
 | a::r,s,h,nd=>by
  obtain ⟨x,pos,rfl,g1,g2,g3⟩:=h 0 a rfl
  refine zMQ (zJb nd (by simpa using g1) g2 g3) (zKk (s:=s+1) (fun i e he=>?_) nd) rfl
  obtain ⟨y,p,q1,q2,q3⟩:=h (i+1) e (by rw [qE1]; exact he)
  exact ⟨y,p,q1,by rw [show s+1+i=s+(i+1) by omega]; exact q2,q3⟩
theorem zDM {env:Env}:∀ {es:List Expr}{xs:List Str},zFL es=some xs→(assignEach es env).length=xs.length∧(assignEach es env).findIdx? (·.1)=none
 | [],xs,h=>by cases h; exact ⟨rfl,rfl⟩
 | a::r,xs,h=>by
  cases a with
  | Name x pos =>
   unfold zFL at h
   obtain ⟨ys,e1,e⟩:=qA1.mp h
   subst e
   obtain ⟨h1,h2⟩:=zDM (env:=env) e1
   rw [zHP]
   exact ⟨by simp [h1],by rw [qP7]; simp [h2]⟩
  | _=>cases h
theorem zTA {tg:Expr}{t:Tgt}{xs:List Str} (e:zNE tg=some (t,xs)):tgtK t=xs.length:=by
 cases tg with
 | Name x pos=>cases e; rfl
 | Tuple es n pos =>
  unfold zNE at e
  obtain ⟨ys,e1,e⟩:=qA1.mp e
  cases e
  rfl
 | _=>cases e
theorem zMD {X':Cx}{sc':Sc} (h:XOk X' sc' ar cl k) {x:Str} (g:sc'.names.lookup x=some .local∨sc'.names.lookup x=some .cell∧X'.fn x=true):Loc X'.env.scope x∧(X'.fn x=true∨X'.env.scope.names.lookup x=some .local):=by
 rcases g with g | ⟨g,f⟩
 ·exact ⟨.inl (h.loc x g),.inr (h.loc x g)⟩
 ·exact ⟨.inr (h.cel x g),.inl f⟩
theorem zZw {X':Cx}{sc':Sc} (h:XOk X' sc' ar cl k) {tg:Expr}{t:Tgt}{xs:List Str} (e:zNE tg=some (t,xs)) (hN:∀ (i:Nat) (x:Str),xs[i]?=some x→sc'.N[i]?=some x∧(sc'.names.lookup x=some .local∨sc'.names.lookup x=some .cell∧X'.fn x=true)):PG X' tg (tOfT' X'.K t)∧tgtK t=xs.length:=by
 have nd:X'.N.Nodup:=by rw [h.N]; exact h.nd
 cases tg with
 | Name x pos =>
  cases e
  obtain ⟨g1,g2⟩:=hN 0 x rfl
  obtain ⟨l1,l2⟩:=zMD h g2
  exact ⟨zJb nd (by rw [h.N]; exact g1) l1 l2,rfl⟩
 | Tuple es n pos =>
  unfold zNE at e
  obtain ⟨ys,e1,e⟩:=qA1.mp e
  cases e
  obtain ⟨a1,a2⟩:=zDM (env:=X'.env) e1
  obtain ⟨n1,n2⟩:=zH6 e1
  refine ⟨?_,rfl⟩
  have:=zKk (X:=X') (es:=es) (s:=0) (fun i e he=>by
   obtain ⟨x,pos,rfl,g⟩:=n2 i e he
   obtain ⟨g1,g2⟩:=hN i x g
   obtain ⟨l1,l2⟩:=zMD h g2
   exact ⟨x,pos,rfl,by rw [h.N,Nat.zero_add]; exact g1,l1,l2⟩) nd
  rw [n1] at this
  exact zT4 h.calm this a1 a2
 | _=>cases e
theorem zTo (h:XOk X sc ar cl k) {xs:List Str}{scope:Scope}{js:List Nat} (hc:compOk sc xs scope=true) (e1:slots sc.N (zBv scope.names)=some js):zOB X scope (xs++zBv scope.names) xs.length js:=by
 obtain ⟨l1,l2⟩:=zJW e1
 unfold compOk at hc
 simp only [qC7,decide_eq_true_eq] at hc
 obtain ⟨⟨⟨⟨⟨⟨c1,c2⟩,c3⟩,c4⟩,c5⟩,c6⟩,c7⟩:=hc
 have hf7:∀ x,(x,NameKind.free)∈scope.names→(sc.names.lookup x=some .cell∨sc.names.lookup x=some .free)∧scope.names.lookup x=some .free:=fun x hx=>by
  have hm:x∈zBv scope.names:=by
   unfold zBv
   rw [qA9]
   exact ⟨(x,.free),by rw [qB2]; exact ⟨hx,by simp⟩,rfl⟩
  have:=qE5.mp c7 x hm
  simpa using this
 refine ⟨h.calm,c1,fun x hx=>?_,fun x hx=>?_,fun x hx hxl=>?_,?_,fun i j hj=>?_⟩
 ·have:=qE5.mp c2 _ hx
  simpa using this
 ·rcases (hf7 x hx).1 with q | q
  ·exact .inl (h.cel x q)
  ·exact h.fre x q
 ·have:=qE5.mp c3 x hx
  simp only [qG9,bne_iff_ne,ne_eq,beq_iff_eq] at this
  rcases this with z | z
  ·exact absurd hxl z
  ·exact z
 ·rw [qC4,l1]
 ·obtain ⟨x,g1,g2⟩:=l2 i j hj
  have hm:(x,NameKind.free)∈scope.names:=by
   have:=qB9 g1
   unfold zBv at this
   rw [qA9] at this
   obtain ⟨⟨y,ky⟩,m1,m2⟩:=this
   rw [qB2] at m1
   dsimp only at m2
   subst m2
   have:ky=.free:=by simpa using m1.2
   subst this
   exact m1.1
  obtain ⟨v1,v2⟩:=hf7 x hm
  refine ⟨x,?_,by rw [h.N]; exact g2,v2,h.vis (.inr v1)⟩
  rw [qB6 (by omega),Nat.add_sub_cancel_left]; exact g1
theorem zTn (h:XOk X sc ar cl k) {xs:List Str}{scope:Scope}{tg:Expr}{t:Tgt} (hc:compOk sc xs scope=true) (e0:zNE tg=some (t,xs)) (cl':List (Str × Addr)) (s:Shared) (H:Hp) (C:Addr) (ex:List Addr):PG (zCa X scope (xs++zBv scope.names) cl' s H C ex) tg (tOfT' X.K t) :=
 (zZw (h.comp hc cl' s H C ex) e0 fun i x hx=>by
  unfold compOk at hc
  simp only [qC7,decide_eq_true_eq] at hc
  have c5:=hc.1.1.2
  have hl:=(qA5.mp hx).1
  refine ⟨?_,?_⟩
  ·show (xs++zBv scope.names)[i]?=some x
   rw [qC1 hl]; exact hx
  ·have:=qE5.mp c5 x (qB9 hx)
   rw [qG9,beq_iff_eq,beq_iff_eq] at this
   rcases this with z | z
   ·exact .inl z
   ·exact .inr ⟨z,decide_eq_true (zSe z)⟩).1
inductive zYC (X:Cx) (sc:Sc) (tg iter elt:Expr) (ifs:List Expr) (scope:Scope) (c:C):Prop
 | mk (t:Tgt) (xs:List Str) (js:List Nat) (ci:CI) (ct:CT) (ce:C) (B:zOB X scope (xs++zBv scope.names) xs.length js) (hi:PI X tg iter (tOfI X.K ci)) (hs:zLL iter=false)
  (hg:∀ cl' s H C ex,PG (zCa X scope (xs++zBv scope.names) cl' s H C ex) tg (tOfT' X.K t)) (hT:∀ cl' s H C ex,PTs (zCa X scope (xs++zBv scope.names) cl' s H C ex) ifs (tOfT X.K ct))
  (hE:∀ cl' s H C ex,PE (zCa X scope (xs++zBv scope.names) cl' s H C ex) elt (tOf X.K ce)) (ht:tgtK t≤xs.length) (h1:1≤xs.length) (hc:c=zBe ci xs.length js t ct ce)
theorem zQN (h:XOk X sc ar cl k) {it:Option CI}{fe:Sc→Expr→Option C}{ft:Sc→Expr→Option CT}{tg iter elt:Expr}{ifs:List Expr}{scope:Scope}{c:C} (e:zHG sc it fe ft tg elt ifs scope=some c)
  (hi:∀ ci,it=some ci→PI X tg iter (tOfI X.K ci)∧zLL iter=false) (hfe:∀ X' sc',XOk X' sc' ar cl k→zEj X' (fe sc')) (hft:∀ X' sc',XOk X' sc' ar cl k→zLe X' (ft sc')):zYC X sc tg iter elt ifs scope c:=by
 unfold zHG at e
 obtain ⟨⟨t,xs⟩,e0,e⟩:=qA3.mp e
 dsimp only at e
 by_cases hc:compOk sc xs scope=true
 ·rw [if_pos hc] at e
  obtain ⟨js,e1,u1⟩:=qA3.mp e
  obtain ⟨ci,e2,u2⟩:=qA3.mp u1
  obtain ⟨ce,e3,u3⟩:=qA3.mp u2
  clear e u1 u2
  obtain ⟨i1,i2⟩:=hi ci e2
  have c6:1≤xs.length:=by
   have hc':=hc
   unfold compOk at hc'
   simp only [qC7,decide_eq_true_eq] at hc'
   exact hc'.1.2
  have hE:=fun cl' s H C ex=>hfe _ _ (h.comp hc cl' s H C ex) elt ce e3
  have ht:tgtK t≤xs.length:=by rw [zTA e0]; exact qB0 _
  cases ifs with
  | nil =>
   cases u3
   exact ⟨t,xs,js,ci,_,ce,zTo h hc e1,i1,i2,zTn h hc e0,fun cl' s H C ex pins s' σ H' Q I ⟨μ,ρ,S,d,S',sr,re,e,y⟩=>zUc pins s' σ H' Q I (by obtain ⟨rfl,rfl⟩:=zAR e; exact y H' μ sr (Step.refl _ _ _)),hE,ht,c6,rfl⟩
  | cons q r =>
   cases r with
   | nil =>
    obtain ⟨ct,e4,u4⟩:=qA1.mp u3
    exact ⟨t,xs,js,ci,ct,ce,zTo h hc e1,i1,i2,zTn h hc e0,fun cl' s H C ex=>zUb (hft _ _ (h.comp hc cl' s H C ex) q ct e4),hE,ht,c6,u4.symm⟩
   | cons _ _=>cases u3
 ·rw [if_neg hc] at e; cases e
theorem zU2 (h:XOk X sc ar cl k) {it:Option CI}{fe:Sc→Expr→Option C}{ft:Sc→Expr→Option CT}{tg iter elt:Expr}{ifs:List Expr}{scope:Scope}{pos:Pos}{c:C} (e:zHG sc it fe ft tg elt ifs scope=some c)
  (hi:∀ ci,it=some ci→PI X tg iter (tOfI X.K ci)∧zLL iter=false) (hfe:∀ X' sc',XOk X' sc' ar cl k→zEj X' (fe sc')) (hft:∀ X' sc',XOk X' sc' ar cl k→zLe X' (ft sc')):PE X (.ListComp elt [⟨tg,iter,ifs,0⟩] scope pos) (tOf X.K c):=by
 obtain ⟨t,xs,js,ci,ct,ce,B,i1,i2,hg,hT,hE,ht,h1,rfl⟩:=zQN h e hi hfe hft
 exact (zUv B i1 hg hT hE (zHp i2)).weak fun σ H Q q=>zPK ht h1 q
theorem zRJ (h:XOk X sc ar cl k) {it:Option CI}{fe:Sc→Expr→Option C}{ft:Sc→Expr→Option CT}{tg iter elt:Expr}{ifs:List Expr}{scope:Scope}{pos pos' spos:Pos}{y0:Str}{go:TG} (hgo:PG X (.Name y0 pos') go) (hsw:swapsWith (.ListComp elt [⟨tg,iter,ifs,0⟩] scope pos) (some (.Name y0 pos')) spos.line X.env=pure true) {c:C} (e:zHG sc it fe ft tg elt ifs scope=some c)
  (hi:∀ ci,it=some ci→PI X tg iter (tOfI X.K ci)∧zLL iter=false) (hfe:∀ X' sc',XOk X' sc' ar cl k→zEj X' (fe sc')) (hft:∀ X' sc',XOk X' sc' ar cl k→zLe X' (ft sc')):PS X (.Assign [.Name y0 pos'] (.ListComp elt [⟨tg,iter,ifs,0⟩] scope pos) spos) (tAsg (tOf X.K c) go):=by
 obtain ⟨t,xs,js,ci,ct,ce,B,i1,i2,hg,hT,hE,ht,h1,rfl⟩:=zQN h e hi hfe hft
 exact (zNN hgo hsw B i1 hg hT hE (zHp i2)).weak fun D σ H q=>zPK ht h1 q
end
open PySem PySem.Spec PyProof.Rows
section
variable (ar:Str→Option Nat) (cl:Str→List D→M D)
mutual
noncomputable def cE:Nat→Sc→Expr→Option C
 | 0,_,_=>none
 | n+1,sc,e=>match e with
  | .Constant v _ _=>zTr v
  | .Name x _=>zVp sc ar x
  | .BinOp a op b _=>(zXu op).bind fun o=>(cE n sc a).bind fun ca=>(cE n sc b).map fun cb=>cBin o ca cb
  | .UnaryOp op a _=>match op with
   | .USub=>(cE n sc a).map fun ca=>cUn oNeg ca
   | .Not=>(cE n sc a).map fun ca=>zSL ca
   | _=>none
  | .BoolOp op vs _=>zNs op (cE n sc) vs
  | .IfExp t a b _=>(cT n sc t).bind fun ct=>(cE n sc a).bind fun ca=>(cE n sc b).map fun cb=>cIf ct ca cb
  | .Compare a ops bs _=>zFp (cE n sc) a ops bs
  | .Tuple es _ _=>(zA1? (cE n sc) es).bind fun cs=>if cs.length≤1000 then some (cTup (zA1 cs)) else none
  | .List es _=>(zA1? (cE n sc) es).bind fun cs=>if cs.length≤1000 then some (cLst (zA1 cs)) else none
  | .Subscript a b _=>cSub (cE n sc) a b
  | .Dict ks vs _=>zVr (cE n sc) ks vs
  | .Call fn es kw cpos=>match kw with
   | []=>match fn with
    | .Name x _=>zR6 sc ar cl (cE n sc) x es
    | .Attribute o m apos=>zMk (cE n sc) o m es apos cpos
    | _=>none
   | _::_=>none
  | .ListComp elt gens scope _=>match gens with
   | [⟨tg,iter,ifs,ia⟩]=>if ia=0 then zHG sc (zOr sc ar (cE n sc) tg iter) (cE n) (cT n) tg elt ifs scope else none
   | _=>none
  | _=>none
noncomputable def cT:Nat→Sc→Expr→Option CT
 | 0,_,_=>none
 | n+1,sc,e=>match e with
  | .UnaryOp op a _=>match op with
   | .Not=>(cT n sc a).map fun ca=>zG0 ca
   | _=>(cE n sc e).map cTru
  | .BoolOp op vs _=>zNt op (cT n sc) vs
  | .IfExp _ _ _ _=>none
  | .Compare a ops bs _=>zJ2 (cE n sc) a ops bs
  | _=>(cE n sc e).map cTru
end
end
section
variable {X:Cx}{sc:Sc}{ar:Str→Option Nat}{cl:Str→List D→M D}{k:Nat}
theorem zNM:∀ n:Nat,(∀ X sc,XOk X sc ar cl k→zEj X (cE ar cl n sc))∧(∀ X sc,XOk X sc ar cl k→zLe X (cT ar cl n sc))
 | 0=>⟨fun X sc h e c q=>(by cases q),fun X sc h e c q=>(by cases q)⟩
 | n+1=>by
  obtain ⟨ihE,ihT⟩:=zNM n
  refine ⟨fun X sc h e c q=>?_,fun X sc h e c q=>?_⟩
  ·have hf:=ihE X sc h
   have ht:=ihT X sc h
   cases e with
   | Constant v j pos=>exact zU1 q
   | Name x pos=>exact zWw h q
   | BinOp a op b pos =>
    obtain ⟨o,e0,q1⟩:=qA3.mp q
    obtain ⟨ca,e1,q2⟩:=qA3.mp q1
    obtain ⟨cb,e2,q3⟩:=qA1.mp q2
    subst q3
    exact zWt (s_op e0) (hf _ _ e1) (hf _ _ e2)
   | UnaryOp op a pos =>
    cases op with
    | USub =>
     obtain ⟨ca,e1,q2⟩:=qA1.mp q
     subst q2
     exact zZt zVR (hf _ _ e1)
    | Not =>
     obtain ⟨ca,e1,q2⟩:=qA1.mp q
     subst q2
     exact zWq (hf _ _ e1)
    | _=>cases q
   | BoolOp op vs pos=>exact zLr hf q
   | IfExp t a b pos =>
    obtain ⟨ct,e0,q1⟩:=qA3.mp q
    obtain ⟨ca,e1,q2⟩:=qA3.mp q1
    obtain ⟨cb,e2,q3⟩:=qA1.mp q2
    subst q3
    exact zRE (ht _ _ e0) (hf _ _ e1) (hf _ _ e2)
   | Compare a ops bs pos=>exact zPm h.room hf q
   | Tuple es j pos =>
    obtain ⟨cs,e1,q1⟩:=qA3.mp q
    split at q1
    ·rename_i hl; cases q1; exact zWp (zDW hf e1).1 hl
    ·cases q1
   | List es pos =>
    obtain ⟨cs,e1,q1⟩:=qA3.mp q
    split at q1
    ·rename_i hl; cases q1; exact zWr (zDW hf e1).1 hl
    ·cases q1
   | Subscript a b pos=>exact zZx h.room hf q
   | Dict ks vs pos=>exact zWx hf q
   | Call fn es kw cpos =>
    cases kw with
    | cons _ _=>cases q
    | nil =>
     cases fn with
     | Name x p=>exact zU3 h hf q
     | Attribute o m apos=>exact zRI h.room hf q
     | _=>cases q
   | ListComp elt gens scope pos =>
    cases gens with
    | nil=>cases q
    | cons g gs =>
     obtain ⟨tg,iter,ifs,ia⟩:=g
     cases gs with
     | cons _ _=>cases q
     | nil =>
      change (if ia=0 then zHG sc (zOr sc ar (cE ar cl n sc) tg iter) (cE ar cl n) (cT ar cl n) tg elt ifs scope else none)=some c at q
      split at q
      ·rename_i hz
       subst hz
       exact zU2 h q (fun ci e=>zPk h hf e) (fun X' sc' h'=>ihE X' sc' h') (fun X' sc' h'=>ihT X' sc' h')
      ·cases q
   | _=>cases q
  ·have hf:=ihE X sc h
   have ht:=ihT X sc h
   have dflt:∀ {c:CT},(cE ar cl n sc e).map cTru=some c→(∀ whole,isTrue e X.env whole=(do let v ← whole; standAt e.pos; holding [v] (truthy v)))→PT X e (tOfT X.K c):=fun {c} q he=>by
    obtain ⟨ca,e1,q2⟩:=qA1.mp q
    subst q2
    exact zW7 (hf _ _ e1) he
   cases e with
   | UnaryOp op a pos =>
    cases op with
    | Not =>
     obtain ⟨ca,e1,q2⟩:=qA1.mp q
     subst q2
     exact zW8 (ht _ _ e1)
    | USub=>exact dflt q fun _=>rfl
    | UAdd=>exact dflt q fun _=>rfl
    | Invert=>exact dflt q fun _=>rfl
   | BoolOp op vs pos=>exact (zLs ht q).pt
   | IfExp t a b pos=>cases q
   | Compare a ops bs pos=>exact zNK h.room hf q
   | _=>exact dflt q fun _=>rfl
section
variable (ar:Str→Option Nat) (cl:Str→List D→M D)
noncomputable def cTg (sc:Sc) (x:Str):Option G:=(zG7 sc.N x 0).bind fun i=>if sc.names.lookup x=some .local∨(sc.fn.isSome=true∧sc.names.lookup x=some .cell) then some (gN i) else none
mutual
noncomputable def cG:Nat→Sc→Expr→Option G
 | 0,_,_=>none
 | n+1,sc,e=>match e with
  | .Name x _=>cTg sc x
  | .Subscript a b _=>match b with
   | _=>if zHf b then none else (cE ar cl n sc a).bind fun ca=>(cE ar cl n sc b).map fun cb=>gS ca cb
  | .Tuple es _ _=>(cGs n sc es).map fun gs=>gT gs
  | _=>none
noncomputable def cGs:Nat→Sc→List Expr→Option (List G)
 | 0,_,_=>none
 | n+1,sc,es=>match es with
  | []=>some []
  | e::r=>if zBt e then (cG n sc e).bind fun g=>(cGs n sc r).map fun gs=>g::gs else none
end
end
theorem XOk.nd' (h:XOk X sc ar cl k):X.N.Nodup:=by rw [h.N]; exact h.nd
theorem s_tg (h:XOk X sc ar cl k) {x:Str}{g:G} (e:cTg sc x=some g):∃ i,g=gN i∧X.N[i]?=some x∧Loc X.env.scope x∧(X.fn x=true∨X.env.scope.names.lookup x=some .local):=by
 unfold cTg at e
 obtain ⟨i,e1,e2⟩:=qA3.mp e
 split at e2
 ·rename_i hc
  cases e2
  refine ⟨i,rfl,by rw [h.N]; exact (zEo e1).2,?_⟩
  rcases hc with q | ⟨q1,q2⟩
  ·exact ⟨.inl (h.loc x q),.inr (h.loc x q)⟩
  ·exact ⟨.inr (h.cel x q2),.inl (h.fnn q1 x)⟩
 ·cases e2
theorem zOz {a b:Expr}{pos:Pos}{env:Env} (h:zHf b=false):∀ v,assign (.Subscript a b pos) env v=(do
   let ov ← holding [v] (eval a env)
   let iv ← holding [v,ov] (eval b env)
   standAt pos
   holding [v,ov,iv] (setItem ov iv v)
   release [v,ov,iv] []):=by
 cases b <;> first | (intro v; rfl) | cases h
theorem zCR {e:Expr}{es:List Expr}{env:Env} (h:zBt e=true):assignEach (e::es) env=(false,assign e env)::assignEach es env:=by
 cases e <;> first | rfl | cases h
theorem s_G:∀ n:Nat,(∀ X sc,XOk X sc ar cl k→∀ e g,cG ar cl n sc e=some g→PG X e (tOfG X.K g))∧(∀ X sc,XOk X sc ar cl k→∀ es gs,cGs ar cl n sc es=some gs→PGs X es (zP4 X.K gs)∧(assignEach es X.env).length=gs.length∧(assignEach es X.env).findIdx? (·.1)=none)
 | 0=>⟨fun X sc h e c q=>(by cases q),fun X sc h e c q=>(by cases q)⟩
 | n+1=>by
  obtain ⟨ih,ihs⟩:=s_G n
  refine ⟨fun X sc h e g q=>?_,fun X sc h es gs q=>?_⟩
  ·cases e with
   | Name x pos =>
    obtain ⟨i,rfl,h1,h2,h3⟩:=s_tg h q
    exact zTT (zJb h.nd' h1 h2 h3)
   | Subscript a b pos =>
    change (if zHf b then none else (cE ar cl n sc a).bind fun ca=>(cE ar cl n sc b).map fun cb=>gS ca cb)=_ at q
    split at q
    ·cases q
    ·rename_i hs
     obtain ⟨ca,e1,q1⟩:=qA3.mp q
     obtain ⟨cb,e2,q2⟩:=qA1.mp q1
     subst q2
     exact zWm (zV0 h.room) ((zNM n).1 X sc h _ _ e1) ((zNM n).1 X sc h _ _ e2) (zOz (by simpa using hs))
   | Tuple es j pos =>
    obtain ⟨gs,e1,q1⟩:=qA1.mp q
    subst q1
    obtain ⟨h1,h2,h3⟩:=ihs X sc h es gs e1
    exact zWl h.calm h1 h2 h3
   | _=>cases q
  ·cases es with
   | nil=>cases q; exact ⟨zTS,rfl,rfl⟩
   | cons e r =>
    change (if zBt e=true then (cG ar cl n sc e).bind fun g=>(cGs ar cl n sc r).map fun gs=>g::gs else none)=_ at q
    split at q
    ·rename_i hs
     obtain ⟨g,e1,q1⟩:=qA3.mp q
     obtain ⟨gs',e2,q2⟩:=qA1.mp q1
     subst q2
     obtain ⟨h1,h2,h3⟩:=ihs X sc h r gs' e2
     have ha:=zCR (es:=r) (env:=X.env) hs
     refine ⟨zRA (ih X sc h e g e1) h1 (by rw [ha]; rfl),by rw [ha]; simp [h2],by rw [ha,qP7]; simp [h3]⟩
    ·cases q
noncomputable def zKt:Expr→Bool
 | .ListComp _ _ _ _=>true
 | .SetComp _ _ _ _=>true
 | .DictComp _ _ _ _ _=>true
 | _=>false
theorem zMI {e:Expr}{t:Option Expr}{n:Nat}{env:Env} (h:zKt e=false):swapsWith e t n env=pure false:=by
 cases e <;> first | rfl | cases h
noncomputable def zM7:Expr→Expr→Bool
 | .Name _ _,.ListComp _ _ _ _=>false
 | .Tuple _ _ _,.ListComp _ _ _ _=>false
 | _,e=>zKt e
theorem zPn (h:XOk X sc ar cl k):∀ {n:Nat}{elt:Expr}{gens:List Comprehension}{scope:Scope}{pos pos' spos:Pos}{x:Str}{c:C}{i:Nat} (q:cE ar cl n sc (.ListComp elt gens scope pos)=some c) (hgo:PG X (.Name x pos') (zLR i))
  (hsw:swapsWith (.ListComp elt gens scope pos) (some (.Name x pos')) spos.line X.env=pure true),PS X (.Assign [.Name x pos'] (.ListComp elt gens scope pos) spos) (tAsg (tOf X.K c) (zLR i))
 | 0,_,_,_,_,_,_,_,_,_,q,_,_=>by cases q
 | n+1,elt,gens,scope,pos,pos',spos,x,c,i,q,hgo,hsw=>by
  obtain ⟨ihE,ihT⟩:=zNM (ar:=ar) (cl:=cl) (k:=k) n
  cases gens with
  | nil=>cases q
  | cons g gs =>
   obtain ⟨tg,iter,ifs,ia⟩:=g
   cases gs with
   | cons _ _=>cases q
   | nil =>
    change (if ia=0 then zHG sc (zOr sc ar (cE ar cl n sc) tg iter) (cE ar cl n) (cT ar cl n) tg elt ifs scope else none)=some c at q
    split at q
    ·rename_i hz
     subst hz
     exact zRJ h hgo hsw q (fun ci e=>zPk h (ihE X sc h) e) (fun X' sc' h'=>ihE X' sc' h') (fun X' sc' h'=>ihT X' sc' h')
    ·cases q
theorem zNF {elt:Expr}{gens:List Comprehension}{scope:Scope}{pos pos':Pos}{x:Str}{line:Nat}{env:Env}:∃ b:Bool,swapsWith (.ListComp elt gens scope pos) (some (.Name x pos')) line env=pure b:=⟨_,rfl⟩
inductive CB (tg e:Expr):Prop
 | no (h:∀ n env,swapsWith e (some tg) n env=pure false)
 | yes (x:Str) (pos':Pos) (elt:Expr) (gens:List Comprehension) (scope:Scope) (pos:Pos) (h1:tg=.Name x pos') (h2:e=.ListComp elt gens scope pos)
theorem CB.of {tg e:Expr} (h:zKt e=false):CB tg e:=.no fun _ _=>zMI h
theorem zOl {tg e:Expr} (h:zM7 tg e=false):CB tg e:=by
 cases tg with
 | Name x pos' =>
  cases e with
  | ListComp elt gens scope pos=>exact .yes x pos' elt gens scope pos rfl rfl
  | _=>exact .of h
 | Tuple es k pos =>
  cases e with
  | ListComp elt gens scope pos=>exact .no fun _ _=>rfl
  | _=>exact .of h
 | _=>exact .of h
noncomputable def zSq:Expr→Bool
 | .List _ _=>true
 | _=>false
theorem zIp {tg e:Expr}{env:Env} (h:(zBu tg&&zBu e)=false) (hl:zSq tg=false):swappedStores [tg] e env=pure none:=by
 cases tg with
 | Tuple es n pos=>cases e <;> first | rfl | cases h
 | List es pos=>cases hl
 | _=>rfl
noncomputable def zFC (sc:Sc):Expr→Bool
 | .Tuple [.Name x _,.Name y _] _ _=>sc.names.lookup x == some .cell||sc.names.lookup y == some .cell
 | _=>false
theorem zLo {tg:Expr} (h:zFC sc tg=true):∃ x px y py k pos,tg=.Tuple [.Name x px,.Name y py] k pos∧(sc.names.lookup x=some .cell∨sc.names.lookup y=some .cell):=by
 unfold zFC at h
 split at h
 ·rename_i x px y py k pos
  simp only [qG9,beq_iff_eq] at h
  exact ⟨x,px,y,py,k,pos,rfl,h⟩
 ·cases h
theorem zJT {x y:Str}{px py pos pos2:Pos}{k k2:Nat}{vs:List Expr}{env:Env} (h:env.scope.names.lookup x=some .cell∨env.scope.names.lookup y=some .cell):swappedStores [.Tuple [.Name x px,.Name y py] k pos] (.Tuple vs k2 pos2) env=pure none:=by
 have hn:(([Expr.Name x px,Expr.Name y py].filterMap fun e=>match e with
  | .Name id p=>if (env.kindOf id == some NameKind.local&&p.line == (([Expr.Name x px,Expr.Name y py].head?.map (·.pos.line)).getD 0))=true then some id else none
  | _=>none).length != 2)=true:=by
  have kx:env.kindOf x=env.scope.names.lookup x:=rfl
  have ky:env.kindOf y=env.scope.names.lookup y:=rfl
  have hc:(some NameKind.cell == some NameKind.local)=false:=by decide
  rcases h with h | h
  ·simp only [qH8,qP8,kx,h,hc,qO5,qF2,if_false]
   split <;> rfl
  ·simp only [qH8,qP8,ky,h,hc,qO5,qF2,if_false]
   split <;> rfl
 unfold swappedStores
 simp only [pure_bind]
 split
 ·rfl
 ·split
  ·rfl
  ·rw [if_pos]
   show (_||_)=true
   rw [qG9]
   exact .inl hn
theorem zGT (h:XOk X sc ar cl k) {tg e:Expr} (c2:(zBu tg&&zBu e&&!zFC sc tg)=false) (c3:zSq tg=false):swappedStores [tg] e X.env=pure none:=by
 cases hc:zFC sc tg with
 | false =>
  rw [hc] at c2
  exact zIp (by simpa using c2) c3
 | true =>
  obtain ⟨x,px,y,py,kk,pos,rfl,hxy⟩:=zLo hc
  cases he:zBu e with
  | false=>exact zIp (by rw [he]; rfl) c3
  | true =>
   obtain ⟨vs,k2,pt2,rfl⟩:=zQc he
   exact zJT (hxy.imp (h.cel x) (h.cel y))
noncomputable def za1 (sc:Sc) (t v:Expr × Expr) (n:Str × Str):Option (Nat × Nat × Expr × Expr) :=
 if n.1≠n.2∧sc.names.lookup n.1=some .local∧sc.names.lookup n.2=some .local∧t.1.pos.line=t.2.pos.line∧zBt v.1=true∧zBt v.2=true∧([v.1,v.2].all (foldedForSure 8))=false∧([v.1,v.2].all (constantsAlone 8))=false then
  (zG7 sc.N n.1 0).bind fun i=>(zG7 sc.N n.2 0).map fun j=>(i,j,v.1,v.2)
 else none
noncomputable def zLk:Nat:=100000
section
variable (ar:Str→Option Nat) (cl:Str→List D→M D)
mutual
noncomputable def cSt:Nat→Sc→Stmt→Option CS
 | 0,_,_=>none
 | n+1,sc,s=>match s with
  | .Return v _=>match v with
   | none=>some zU4
   | some e=>(cE ar cl n sc e).map fun c=>sRet c
  | .Expr e _=>if zKt e then none else (cE ar cl n sc e).map fun c=>zDX c
  | .Assign tgs e _=>match tgs with
   | [tg] =>
    if zM7 tg e||(zBu tg&&zBu e&&!zFC sc tg)||zSq tg||!zBt tg then none else (cE ar cl n sc e).bind fun c=>(cG ar cl n sc tg).map fun g=>sAsg c g
   | _=>none
  | .If t a b _=>(cT ar cl n sc t).bind fun ct=>(cSts n sc a).bind fun ca=>(cSts n sc b).map fun cb=>sIf ct ca cb
  | .For tg it body els _=>match els with
   | []=>(zOr sc ar (cE ar cl n sc) tg it).bind fun ci=>(cG ar cl n sc tg).bind fun g=>(cSts n sc body).map fun cb=>sFor ci g cb
   | _::_=>none
  | .While t body els _=>match els with
   | []=>(cT ar cl n sc t).bind fun ct=>(cSts n sc body).map fun cb=>zDJ zLk ct cb
   | _::_=>none
  | .Pass _=>some zA5
  | .Break _=>some sBrk
  | .Continue _=>some sCnt
  | .Raise _ _ _=>some sBad
  | _=>none
noncomputable def cSts:Nat→Sc→List Stmt→Option CS
 | 0,_,_=>none
 | n+1,sc,ss=>match ss with
  | []=>some zA5
  | s::r=>(cSt n sc s).bind fun c=>(cSts n sc r).map fun d=>sSeq c d
end
end
inductive ParE (sc:Sc) (tg e:Expr) (r:Nat × Nat × Expr × Expr):Prop
 | mk (x y:Str) (px py pt pt2:Pos) (kt k2:Nat) (v1 v2:Expr) (h1:tg=.Tuple [.Name x px,.Name y py] kt pt) (h2:e=.Tuple [v1,v2] k2 pt2) (hp:za1 sc (.Name x px,.Name y py) (v1,v2) (x,y)=some r)
theorem zPz (h:XOk X sc ar cl k):PassesOwn (model X.prog X.w) X.A X.env X.xe:=by rw [h.xe]; exact PassesOwn.never
theorem s_St:∀ n:Nat,(∀ X sc,XOk X sc ar cl k→∀ s c,cSt ar cl n sc s=some c→PS X s (tOfS X c))∧(∀ X sc,XOk X sc ar cl k→∀ s c,cSts ar cl n sc s=some c→PSs X s (tOfS X c))
 | 0=>⟨fun X sc h e c q=>(by cases q),fun X sc h e c q=>(by cases q)⟩
 | n+1=>by
  obtain ⟨ih,ihs⟩:=s_St n
  refine ⟨fun X sc h s c q=>?_,fun X sc h ss c q=>?_⟩
  ·have hf:=(zNM (ar:=ar) (cl:=cl) (k:=k) n).1 X sc h
   have ht:=(zNM (ar:=ar) (cl:=cl) (k:=k) n).2 X sc h
   have hg:=(s_G (ar:=ar) (cl:=cl) (k:=k) n).1 X sc h
   cases s with
   | Return v pos =>
    cases v with
    | none=>cases q; exact zTI
    | some e =>
     obtain ⟨ce,e1,q1⟩:=qA1.mp q
     subst q1
     exact zWb (hf _ _ e1)
   | Expr e pos =>
    change (if zKt e=true then none else (cE ar cl n sc e).map fun c=>zDX c)=some c at q
    split at q
    ·cases q
    ·rename_i hc
     obtain ⟨ce,e1,q1⟩:=qA1.mp q
     subst q1
     exact zTK (hf _ _ e1) (zMI (by simpa using hc))
   | Assign tgs e pos =>
    cases tgs with
    | nil=>cases q
    | cons tg r =>
     cases r with
     | cons _ _=>cases q
     | nil =>
      change (if zM7 tg e||(zBu tg&&zBu e&&!zFC sc tg)||zSq tg||!zBt tg then none else (cE ar cl n sc e).bind fun c=>(cG ar cl n sc tg).map fun g=>sAsg c g)=some c at q
      split at q
      ·cases q
      ·rename_i hc
       simp only [qG9,not_or,qR2,qJ0,Bool.not_eq_false] at hc
       obtain ⟨⟨⟨c1,c2⟩,c3⟩,c4⟩:=hc
       obtain ⟨ce,e1,q1⟩:=qA3.mp q
       obtain ⟨g,e2,q2⟩:=qA1.mp q1
       subst q2
       rcases zOl c1 with c1 | ⟨x,px,elt,gens,scope,pc,rfl,rfl⟩
       ·refine zSX (hf _ _ e1) (hg _ _ e2) (c1 _ _) (zGT h c2 c3) ?_
        rw [zCR (by simpa using c4)]; rfl
       ·obtain ⟨b,hb⟩:=zNF (elt:=elt) (gens:=gens) (scope:=scope) (pos:=pc) (pos':=px) (x:=x) (line:=pos.line) (env:=X.env)
        cases b with
        | false=>exact zSX (hf _ _ e1) (hg _ _ e2) hb (zGT h c2 c3) (by rw [zCR (by simpa using c4)]; rfl)
        | true =>
         cases n with
         | zero=>cases e2
         | succ n =>
          obtain ⟨i,rfl,h1,h2,h3⟩:=s_tg h e2
          exact zWa (zPn h e1 (zJb h.nd' h1 h2 h3) hb)
   | If t a b pos =>
    obtain ⟨ct,e0,q1⟩:=qA3.mp q
    obtain ⟨ca,e1,q2⟩:=qA3.mp q1
    obtain ⟨cb,e2,q3⟩:=qA1.mp q2
    subst q3
    exact zZr (ht _ _ e0) (ihs X sc h _ _ e1) (ihs X sc h _ _ e2)
   | For tg it body els pos =>
    cases els with
    | cons _ _=>cases q
    | nil =>
     obtain ⟨ci,e0,q1⟩:=qA3.mp q
     obtain ⟨g,e1,q2⟩:=qA3.mp q1
     obtain ⟨cb,e2,q3⟩:=qA1.mp q2
     subst q3
     obtain ⟨i1,i2⟩:=zPk h hf e0
     exact zWc (zPz h) h.calm i1 (hg _ _ e1) (ihs X sc h _ _ e2) (zHp i2)
   | While t body els pos =>
    cases els with
    | cons _ _=>cases q
    | nil =>
     obtain ⟨ct,e0,q1⟩:=qA3.mp q
     obtain ⟨cb,e2,q3⟩:=qA1.mp q1
     subst q3
     exact zRx zLk (zPz h) (ht _ _ e0) (ihs X sc h _ _ e2)
   | Pass pos=>cases q; exact zTJ
   | Break pos=>cases q; exact zWe
   | Continue pos=>cases q; exact zWd
   | Raise a b pos=>cases q; exact zWf
   | _=>cases q
  ·cases ss with
   | nil=>cases q; exact zTH
   | cons s r =>
    obtain ⟨c1,e1,q1⟩:=qA3.mp q
    obtain ⟨c2,e2,q2⟩:=qA1.mp q1
    subst q2
    exact zRw (ih X sc h _ _ e1) (ihs X sc h _ _ e2)
noncomputable def zAu (n:Nat) (ds:List D):Env1:=ds.map some++qC2 (n - ds.length) none
noncomputable def runF (np nN:Nat) (b:CS):List D→M D:=fun ds S=>if ds.length=np then (match b (zAu nN ds) S with
 | .nx _ S'=>.ok .non S'
 | .rt d S'=>.ok d S'
 | .er c S'=>.er c S'
 | _=>.bad) else .bad
theorem RVs.begins {K:W.Frag}{H:Hp}{μ:List Addr}{N:List Str}{ds:List D}{vs:List V} (r:RVs K H μ ds vs):RE K H μ (zAu N.length ds) (start N vs):=by
 unfold zAu start
 refine ⟨by simp [r.len],fun i d e=>?_⟩
 by_cases hi:i<ds.length
 ·rw [qC1 (by simpa using hi),qA6] at e
  rw [qC1 (by rw [qA2,← r.len]; exact hi),qA6]
  cases q:ds[i]? with
  | none=>rw [q] at e; cases e
  | some d' =>
   rw [q] at e; cases e
   obtain ⟨v,e1,e2⟩:=r.get q
   exact ⟨v,by rw [e1]; rfl,e2⟩
 ·rw [qB6 (by simpa using hi),qF9] at e
  split at e <;> cases e
noncomputable def fnOk (N ps:List Str) (scope:Scope):Bool :=
 decide (scope.kind=.function)&&!scope.isCoroutine&&!scope.isGenerator&&decide N.Nodup&&decide (N.take ps.length=ps)&&ps.all (fun x=>scope.names.lookup x == some .local||scope.names.lookup x == some .cell)&&scope.names.all (fun y=>y.2 != .free)
theorem zO8 {N ps:List Str}{scope:Scope} (h:fnOk N ps scope=true):zJG N ps scope:=by
 unfold fnOk at h
 simp only [qC7,decide_eq_true_eq,qJ0] at h
 obtain ⟨⟨⟨⟨⟨⟨c1,c2⟩,c3⟩,c4⟩,c5⟩,c6⟩,c7⟩:=h
 refine ⟨c1,c2,c3,c4,c5,fun x hx=>?_,fun y hy=>?_⟩
 ·have:=qE5.mp c6 x hx
  simpa using this
 ·have:=qE5.mp c7 y hy
  simpa using this
noncomputable def bltL:List Str:=["len","range","list","tuple","min","max","zip","isinstance","all","any","int","bool","enumerate","str","sorted","dict","sum","repr","set","abs"]
theorem s_fn {P:Program}{w:World}{K:W.Frag}{mg:Str→Option Value}{base:Heap}{x:Str}{st:Stmt}{fa:Addr}{fd:FuncData}{N ps:List Str}{fuel:Nat}{b:CS} (F:Fun K x x st fa fd)
  (hs:fnOk N ps (zA2 st)=true) (hc:cSts ar cl fuel ⟨N,(zA2 st).names,some x⟩ (zBl st)=some b)
  (hB:∀ y:Str,y∈bltL→ar y=none→mg y=none)
  (ih:∀ y n,ar y=some n→(∃ ps,zIU P w K mg base y ps k (spOf K (cl y) n))∧∀ ds S d S',cl y ds S=.ok d S'→ds.length=n):FnOk P w K mg base CX0 (k+1) fa fd ps (spOf K (runF ps.length N.length b) ps.length):=by
 have S:=zO8 hs
 refine F.ok (k:=k) S (fun vs H Q E h=>h.1) (fun cdv A outer s H vs Q E hr h=>?_)
 obtain ⟨hl,μ,ds,S0,d,S',sr,rv,e,y⟩:=h
 have hX:XOk (cxOf CX0 P w K mg base N x (zA2 st) fa cdv A outer s H E).nox ⟨N,(zA2 st).names,some x⟩ ar cl k:={
  calm:=rfl
  N:=rfl
  nd:=S.nd
  gl:=fun x hx=>hx
  loc:=fun x hx=>hx
  cel:=fun x hx=>hx
  fre:=fun x hx=>.inr hx
  fnn:=fun _ x=>rfl
  room:=hr
  xe:=rfl
  blt:=hB
  fns:=ih }
 refine ⟨_,(s_St fuel).2 _ _ hX _ _ hc,μ,zAu N.length ds,S0,sr,rv.begins,?_⟩
 unfold runF at e
 split at e
 ·split at e
  ·rename_i ρ S2 he
   cases e
   rw [he]
   exact fun σ' H' μ' sr' st' re'=>y _ H' μ' sr' st' zGX
  ·rename_i d' S2 he
   cases e
   rw [he]
   exact y
  ·cases e
  ·cases e
 ·cases e
theorem zZy {P:Program}{w:World}{K:W.Frag}{mg:Str→Option Value}{base:Heap}{x:Str}{st:Stmt}{fa:Addr}{fd:FuncData}{N ps:List Str}{fuel:Nat}{b:CS} (F:Fun K x x st fa fd) (m:mg x=some (.ref fa)) (hb:zJH K fd ps [])
  (hs:fnOk N ps (zA2 st)=true) (hc:cSts ar cl fuel ⟨N,(zA2 st).names,some x⟩ (zBl st)=some b)
  (hB:∀ y:Str,y∈bltL→ar y=none→mg y=none)
  (ih:∀ y n,ar y=some n→(∃ ps,zIU P w K mg base y ps k (spOf K (cl y) n))∧∀ ds S d S',cl y ds S=.ok d S'→ds.length=n):zIU P w K mg base x ps (k+1) (spOf K (runF ps.length N.length b) ps.length) :=
 ⟨fa,fd,s_fn F hs hc hB ih,hb,F.kp,m⟩
end
open PySem PySem.Spec PyProof.Rows
noncomputable abbrev CLL:=Str→List D→M D
noncomputable abbrev Tbl:=List (Str × (Nat × Nat × (CLL→CS)))
noncomputable def arT (tbl:Tbl) (x:Str):Option Nat:=(tbl.lookup x).map (·.1)
noncomputable def zAs (tbl:Tbl):Nat→CLL
 | 0,_=>fun _ _=>.bad
 | n+1,x=>match tbl.lookup x with
  | some p=>runF p.1 p.2.1 (p.2.2 (zAs tbl n))
  | none=>fun _ _=>.bad
structure zMw (K:W.Frag) (mg:Str→Option Value) (ar:Str→Option Nat) (x:Str) (p:Nat × Nat × (CLL→CS)):Prop where
 ex:∃ (st:Stmt) (fa:Addr) (fd:FuncData) (N ps:List Str) (fuel:Nat),Fun K x x st fa fd∧mg x=some (.ref fa)∧zJH K fd ps []∧fnOk N ps (zA2 st)=true∧ps.length=p.1∧N.length=p.2.1 ∧
  ∀ cl:CLL,cSts ar cl fuel ⟨N,(zA2 st).names,some x⟩ (zBl st)=some (p.2.2 cl)
theorem zRK {np nN:Nat}{b:CS}{ds:List D}{S S':zA0}{d:D} (h:runF np nN b ds S=.ok d S'):ds.length=np:=by
 unfold runF at h
 split at h
 ·assumption
 ·cases h
theorem zNW {α:Type}{tbl:List (Str × α)}{x:Str}{p:α} (h:tbl.lookup x=some p):(x,p)∈tbl:=by
 induction tbl with
 | nil=>cases h
 | cons y r ih =>
  obtain ⟨y1,y2⟩:=y
  rw [qC9] at h
  split at h
  ·rename_i e
   cases h
   have:x=y1:=by simpa using e
   subst this
   simp
  ·exact qD6 _ (ih h)
theorem zSW {P:Program}{w:World}{K:W.Frag}{mg:Str→Option Value}{base:Heap}{tbl:Tbl} (hd:∀ x p,tbl.lookup x=some p→zMw K mg (arT tbl) x p) (hB:∀ y:Str,y∈bltL→arT tbl y=none→mg y=none) :
  ∀ (k:Nat) (x:Str) (n:Nat),arT tbl x=some n→(∃ ps,zIU P w K mg base x ps k (spOf K (zAs tbl k x) n))∧∀ ds S d S',zAs tbl k x ds S=.ok d S'→ds.length=n
 | 0,x,n,h=>by
  obtain ⟨p,hp,rfl⟩:=qA1.mp h
  obtain ⟨st,fa,fd,N,ps,fuel,F,m,hb,_⟩:=(hd x p hp).ex
  have no:∀ ds S d S',zAs tbl 0 x ds S=.ok d S'→False:=fun ds S d S' e=>by unfold zAs at e; cases e
  refine ⟨⟨ps,fa,fd,⟨fun vs H Q E h=>?_,fun A outer s H args us vs Q E _ _ _ _ h=>?_⟩,hb,F.kp,m⟩,fun ds S d S' e=>(no _ _ _ _ e).elim⟩
  ·obtain ⟨_,μ,ds,S,d,S',_,_,e,_⟩:=h; exact (no _ _ _ _ e).elim
  ·obtain ⟨_,μ,ds,S,d,S',_,_,e,_⟩:=h; exact (no _ _ _ _ e).elim
 | k+1,x,n,h=>by
  obtain ⟨p,hp,rfl⟩:=qA1.mp h
  obtain ⟨st,fa,fd,N,ps,fuel,F,m,hb,hs,e1,e2,hc⟩:=(hd x p hp).ex
  have ih:=zSW (P:=P) (w:=w) (base:=base) hd hB k
  have q:=zZy (P:=P) (w:=w) (base:=base) (k:=k) F m hb hs (hc (zAs tbl k)) hB ih
  have e3:zAs tbl (k+1) x=runF p.1 p.2.1 (p.2.2 (zAs tbl k)):=by
   show (match tbl.lookup x with | some p=>runF p.1 p.2.1 (p.2.2 (zAs tbl k)) | none=>fun _ _=>.bad)=_
   rw [hp]
  rw [e1,e2] at q
  rw [e3]
  exact ⟨⟨ps,q⟩,fun ds S d S' e=>zRK e⟩
noncomputable def spL (K:W.Frag):Sp:=fun vs H Q _=>∃ (a:Addr) (ns:List Int),vs=[.ref a]∧SqF K H a (ns.map V.int)∧ns.length≤63∧∀ H',Q (.bl true) H'
theorem zWh {K:W.Frag}{H:Hp}{a:Addr}{xs:List V} (o:Only H) (h:SqL K H a xs):SqF K H a xs:=by
 rcases h with (h | ⟨w,h⟩) | h
 ·rcases o a with q | ⟨w,ys,q⟩
  ·rw [h] at q; cases q
  ·rw [h] at q; cases q
 ·exact .inl ⟨w,h⟩
 ·exact .inr h
theorem zXE {P:Program}{w:World}{K:W.Frag}{mg:Str→Option Value}{base:Heap}{tbl:Tbl}{fa:Addr}{fd:FuncData}{st:Stmt}{L nN fuel:Nat}{N:List Str}{b:CLL→CS} (hd:∀ x p,tbl.lookup x=some p→zMw K mg (arT tbl) x p) (hB:∀ y:Str,y∈bltL→arT tbl y=none→mg y=none)
  (hl:tbl.lookup ("law":Str)=some (1,nN,b)) (F:Fun K "law" "law" st fa fd) (hs:fnOk N ["_law_script"] (zA2 st)=true) (hN:N.length=nN) (hc:∀ cl:CLL,cSts (arT tbl) cl fuel ⟨N,(zA2 st).names,some "law"⟩ (zBl st)=some (b cl))
  (hlaw:∀ ns:List Int,ns.length≤63→∃ S',zAs tbl (L+1) "law" [.rol (ns.map D.int)] []=.ok (.bl true) S') :
  FnOk P w K mg base CX0 (L+1) fa fd ["_law_script"] (spL K):=by
 have q:=s_fn (P:=P) (w:=w) (base:=base) (k:=L) F hs (hc (zAs tbl L)) hB (zSW (P:=P) (w:=w) (base:=base) hd hB L)
 refine q.imp fun vs H Q E h=>?_
 obtain ⟨a,ns,rfl,hS,hn,hQ⟩:=h
 obtain ⟨S',e⟩:=hlaw ns hn
 have e3:zAs tbl (L+1) "law"=runF 1 nN (b (zAs tbl L)):=by
  show (match tbl.lookup ("law":Str) with | some p=>runF p.1 p.2.1 (p.2.2 (zAs tbl L)) | none=>fun _ _=>.bad)=_
  rw [hl]
 rw [e3] at e
 refine ⟨rfl,[],[.rol (ns.map D.int)],[],.bl true,S',⟨rfl,List.nodup_nil,fun n a o h=>by simp at h⟩,.cons (by unfold RV; exact ⟨a,_,rfl,hS,RVs.ints⟩) .nil,by rw [hN]; exact e,fun v H' μ' _ _ r=>?_⟩
 unfold RV at r
 subst r
 exact hQ H'
theorem walk_ev {l:W.OpenLaw}{q:Program}{loose:List Str}{XP:(Str→Option Value)→Heap→Prop}{YP:World→Heap→Prop}{d:DefRec}{K:Params→W.Frag}{L:Nat} (hn:l.most=some 63) (hdf:d.params.defaults=[]) (hr:Room L callerA)
  (hY:∀ (w:World) (h:Heap),YP w h→(K w.params).In h)
  (F:∀ (w:World) (mg:Str→Option Value) (fa:Addr) (h:Heap),(K w.params).In h→h.Ns mainGlobals mg→mg d.name=some (.ref fa) →
   ∃ fd:FuncData,(∀ (s:Shared) (u:Value),BindsTo s fd ⟨[u],[]⟩ [("_law_script",u)])∧∀ base:Heap,(K w.params).In base→base.Ns mainGlobals mg→FnOk l.prog w (K w.params) mg base CX0 L fa fd ["_law_script"] (spL (K w.params))) :
  W.WalkO q loose XP YP l.row.toRowW d [] (fun f vs=>PySem.call f vs) :=
 L2.walk_of (n:=63) (k:=L) (x := "_law_script") (CX:=fun _=>CX0) (sp:=fun w=>spL (K w.params)) hn (by decide) hdf hr hY F (fun _ _ a ns hl o hS=>⟨a,ns,rfl,zWh o hS,hl,fun _=>rfl⟩) fun _ _ _ _ _ z=>z
open PySem
noncomputable def zOC (K:W.Frag) (mg:Str→Option Value) (ar:Str→Option Nat):Tbl→Prop
 | []=>True
 | e::r=>zMw K mg ar e.1 e.2∧zOC K mg ar r
theorem zOC.mem {K:W.Frag}{mg:Str→Option Value}{ar:Str→Option Nat}:∀ {t:Tbl},zOC K mg ar t→∀ x p,(x,p)∈t→zMw K mg ar x p
 | [],_,x,p,h=>by cases h
 | e::r,⟨a,b⟩,x,p,h=>by
  rcases qB7.mp h with q | q
  ·subst q; exact a
  ·exact b.mem x p q
theorem zOC.look {K:W.Frag}{mg:Str→Option Value}{ar:Str→Option Nat}{t:Tbl} (h:zOC K mg ar t) (x:Str) (p:Nat × Nat × (CLL→CS)) (e:t.lookup x=some p):zMw K mg ar x p:=h.mem x p (zNW e)
theorem zY8 {K:W.Frag}{mg:Str→Option Value}{ar:Str→Option Nat}{x:Str}{st:Stmt}{fa:Addr}{fd:FuncData}{N ps:List Str}{fuel np nN:Nat}{b:CLL→CS} (F:Fun K x x st fa fd) (m:mg x=some (.ref fa)) (hb:zJH K fd ps []) (hs:fnOk N ps (zA2 st)=true)
  (hc:(fun cl:CLL=>cSts ar cl fuel ⟨N,(zA2 st).names,some x⟩ (zBl st))=fun cl=>some (b cl)) (h1:ps.length=np:=by rfl) (h2:N.length=nN:=by rfl):zMw K mg ar x (np,nN,b) :=
 ⟨st,fa,fd,N,ps,fuel,F,m,hb,hs,h1,h2,fun cl=>congrFun hc cl⟩
noncomputable def zJI (mg:Str→Option Value):List Str→Prop
 | []=>True
 | x::r=>mg x=none∧zJI mg r
theorem zJI.mem {mg:Str→Option Value}:∀ {l:List Str},zJI mg l→∀ x∈l,mg x=none
 | [],_,x,h=>by cases h
 | e::r,⟨a,b⟩,x,h=>by
  rcases qB7.mp h with q | q
  ·subst q; exact a
  ·exact b.mem x q
open PySem
inductive Tg {γ:Type} (f:γ):Type where
 | mk
noncomputable def rbnd {α β:Type} (r:R α) (f:α→zA0→R β) (_:Tg f):R β:=match r with
 | .bad=>.bad
 | .er c S=>.er c S
 | .ok a S=>f a S
@[simp] theorem zAY {α β:Type} (a:α) (S:zA0) (f:α→zA0→R β):rbnd (.ok a S) f .mk=f a S:=rfl
@[simp] theorem zYJ {α β:Type} (f:α→zA0→R β):rbnd .bad f .mk=.bad:=rfl
@[simp] theorem zBQ {α β:Type} (m:M α) (f:α→M β) (S:zA0):bnd m f S=rbnd (m S) f .mk:=rfl
@[simp] theorem zWD {α:Type} (a:α) (S:zA0):ret a S=.ok a S:=rfl
@[simp] theorem zbg {α:Type} (S:zA0):(bad:M α) S=.bad:=rfl
noncomputable def rs {α:Type} (r:R α) (f:α→zA0→RS) (_:Tg f):RS:=match r with
 | .bad=>.bad
 | .er _ _=>.bad
 | .ok a S=>f a S
@[simp] theorem zbl {α:Type} (a:α) (S:zA0) (f:α→zA0→RS):rs (.ok a S) f .mk=f a S:=rfl
@[simp] theorem zb9 {α:Type} (f:α→zA0→RS):rs .bad f .mk=.bad:=rfl
noncomputable def sb (r:RS) (f:CS) (_:Tg f):RS:=match r with
 | .nx ρ S=>f ρ S
 | r=>r
@[simp] theorem zbi (ρ:Env1) (S:zA0) (f:CS):sb (.nx ρ S) f .mk=f ρ S:=rfl
@[simp] theorem zbh (d:D) (S:zA0) (f:CS):sb (.rt d S) f .mk=.rt d S:=rfl
@[simp] theorem zbk (ρ:Env1) (S:zA0) (f:CS):sb (.bk ρ S) f .mk=.bk ρ S:=rfl
@[simp] theorem zbj (ρ:Env1) (S:zA0) (f:CS):sb (.ct ρ S) f .mk=.ct ρ S:=rfl
@[simp] theorem zLt (a b:CS) (ρ:Env1) (S:zA0):sSeq a b ρ S=sb (a ρ S) b .mk:=by
 unfold sSeq sb; cases a ρ S <;> rfl
@[simp] theorem zYH (ρ:Env1) (S:zA0):zA5 ρ S=.nx ρ S:=rfl
@[simp] theorem zZB (ρ:Env1) (S:zA0):sBrk ρ S=.bk ρ S:=rfl
@[simp] theorem zZA (ρ:Env1) (S:zA0):sCnt ρ S=.ct ρ S:=rfl
@[simp] theorem zYG (ρ:Env1) (S:zA0):zU4 ρ S=.rt .non S:=rfl
@[simp] theorem zZz (c:C) (ρ:Env1) (S:zA0):sRet c ρ S=rs (c ρ S) (fun d S'=>.rt d S') .mk:=by
 unfold sRet rs; cases c ρ S <;> rfl
@[simp] theorem zYI (c:C) (ρ:Env1) (S:zA0):zDX c ρ S=rs (c ρ S) (fun _ S'=>.nx ρ S') .mk:=by
 unfold zDX rs; cases c ρ S <;> rfl
@[simp] theorem zZC (c:C) (g:G) (ρ:Env1) (S:zA0):sAsg c g ρ S=rs (c ρ S) (fun d S1=>rs (g d ρ S1) (fun ρ' S2=>.nx ρ' S2) .mk) .mk:=by
 unfold sAsg rs
 cases c ρ S with
 | ok d S1=>dsimp only; cases g d ρ S1 <;> rfl
 | _=>rfl
@[simp] theorem zb8 (t:CT) (a b:CS) (ρ:Env1) (S:zA0):sIf t a b ρ S=rs (t ρ S) (fun k S'=>if k then a ρ S' else b ρ S') .mk:=by
 unfold sIf rs; cases t ρ S <;> rfl
@[simp] theorem zU5 (it:CI) (g:G) (b:CS) (ρ:Env1) (S:zA0):sFor it g b ρ S=rs (it ρ S) (fun p S1=>zBC p.2 g b p.1 ρ S1) .mk:=by
 unfold sFor rs
 cases it ρ S with
 | ok p S1=>obtain ⟨a,b⟩:=p; rfl
 | _=>rfl
@[simp] theorem zbn (i:Nat) (d:D) (ρ:Env1) (S:zA0):gN i d ρ S=.ok (ρ.set i (some d)) S:=rfl
noncomputable def mo {α:Type} (o:Option α) (S':α→zA0) (ρ:Env1):R Env1:=match o with
 | some x=>.ok ρ (S' x)
 | none=>.bad
@[simp] theorem zbm (co ci:C) (d:D) (ρ:Env1) (S:zA0):gS co ci d ρ S=rbnd (co ρ S) (fun o S1=>rbnd (ci ρ S1) (fun i S2=>mo (oSet o i d S2) (fun x=>x) ρ) .mk) .mk:=by
 unfold gS
 rw [zBQ]
 cases co ρ S with
 | bad=>rfl
 | er _ _=>rfl
 | ok o S1 =>
  rw [zAY,zAY,zBQ]
  cases ci ρ S1 with
  | bad=>rfl
  | er _ _=>rfl
  | ok i S2 =>
   rw [zAY,zAY]
   cases h:oSet o i d S2 <;> rfl
@[simp] theorem zav {α:Type} (x:α) (f:α→zA0) (ρ:Env1):mo (some x) f ρ=.ok ρ (f x):=rfl
@[simp] theorem zXW (gs:List G) (xs:List D) (ρ:Env1) (S:zA0):gT gs (.tup xs) ρ S=gTs gs xs ρ S:=rfl
@[simp] theorem zaE (ρ:Env1) (S:zA0):gTs [] [] ρ S=.ok ρ S:=rfl
@[simp] theorem zYW (g:G) (gs:List G) (x:D) (xs:List D) (ρ:Env1) (S:zA0):gTs (g::gs) (x::xs) ρ S=rbnd (g x ρ S) (fun ρ1 S1=>gTs gs xs ρ1 S1) .mk:=rfl
@[simp] theorem zVo (i:Nat) (ρ:Env1) (S:zA0):cVar i ρ S=match ρ[i]? with | some (some d)=>.ok d S | _=>.bad:=rfl
@[simp] theorem zVs (d:D) (ρ:Env1) (S:zA0):cCon d ρ S=.ok d S:=rfl
@[simp] theorem zVt (o:D→D→M D) (a b:C) (ρ:Env1) (S:zA0):cBin o a b ρ S=rbnd (a ρ S) (fun x S1=>rbnd (b ρ S1) (fun y S2=>o x y S2) .mk) .mk:=rfl
@[simp] theorem zbd (o:D→M D) (a:C) (ρ:Env1) (S:zA0):cUn o a ρ S=rbnd (a ρ S) o .mk:=rfl
@[simp] theorem zR7 (ρ:Env1) (S:zA0):zA1 [] ρ S=.ok [] S:=rfl
@[simp] theorem zOs (c:C) (cs:List C) (ρ:Env1) (S:zA0):zA1 (c::cs) ρ S=rbnd (c ρ S) (fun x S1=>rbnd (zA1 cs ρ S1) (fun xs S2=>.ok (x::xs) S2) .mk) .mk:=rfl
@[simp] theorem zVv (o:List D→M D) (a:CA) (ρ:Env1) (S:zA0):cApp o a ρ S=rbnd (a ρ S) o .mk:=rfl
@[simp] theorem zaP (a:CA) (ρ:Env1) (S:zA0):cTup a ρ S=rbnd (a ρ S) (fun xs S1=>.ok (.tup xs) S1) .mk:=rfl
@[simp] theorem zVq (a:CA) (ρ:Env1) (S:zA0):cLst a ρ S=rbnd (a ρ S) (fun xs S1=>.ok (.lst S1.length) (S1++[.lst xs])) .mk:=rfl
@[simp] theorem zbf (t:CT) (a b:C) (ρ:Env1) (S:zA0):cIf t a b ρ S=rbnd (t ρ S) (fun k S1=>if k then a ρ S1 else b ρ S1) .mk:=by
 unfold cIf; rw [zBQ]
 cases t ρ S with
 | ok k S1=>cases k <;> rfl
 | bad=>rfl
 | er _ _=>rfl
@[simp] theorem zZa (a:C) (ρ:Env1) (S:zA0):zAB a ρ S=rbnd (a ρ S) (fun x S1=>dB x S1) .mk:=rfl
@[simp] theorem zbo (b:Bool) (S:zA0):dB (.bl b) S=.ok b S:=rfl
@[simp] theorem zZb (a b:C) (ρ:Env1) (S:zA0):zOt a b ρ S=rbnd (zAB a ρ S) (fun k S1=>if k then b ρ S1 else .ok (.bl false) S1) .mk:=by
 unfold zOt; rw [zBQ]
 cases zAB a ρ S with
 | ok k S1=>cases k <;> rfl
 | bad=>rfl
 | er _ _=>rfl
@[simp] theorem zaR (a b:C) (ρ:Env1) (S:zA0):cOrV a b ρ S=rbnd (zAB a ρ S) (fun k S1=>if k then .ok (.bl true) S1 else b ρ S1) .mk:=by
 unfold cOrV; rw [zBQ]
 cases zAB a ρ S with
 | ok k S1=>cases k <;> rfl
 | bad=>rfl
 | er _ _=>rfl
@[simp] theorem zZ4 (a:C) (ρ:Env1) (S:zA0):zSL a ρ S=rbnd (zAB a ρ S) (fun k S1=>.ok (.bl (!k)) S1) .mk:=rfl
@[simp] theorem zZc (a b:CT) (ρ:Env1) (S:zA0):zMl a b ρ S=rbnd (a ρ S) (fun k S1=>if k then b ρ S1 else .ok false S1) .mk:=by
 unfold zMl; rw [zBQ]
 cases a ρ S with
 | ok k S1=>cases k <;> rfl
 | bad=>rfl
 | er _ _=>rfl
@[simp] theorem zaS (a b:CT) (ρ:Env1) (S:zA0):cOrT a b ρ S=rbnd (a ρ S) (fun k S1=>if k then .ok true S1 else b ρ S1) .mk:=by
 unfold cOrT; rw [zBQ]
 cases a ρ S with
 | ok k S1=>cases k <;> rfl
 | bad=>rfl
 | er _ _=>rfl
@[simp] theorem zZ5 (a:CT) (ρ:Env1) (S:zA0):zG0 a ρ S=rbnd (a ρ S) (fun k S1=>.ok (!k) S1) .mk:=rfl
@[simp] theorem zYk (o o':D→D→M D) (a b c:C) (ρ:Env1) (S:zA0):zFq o o' a b c ρ S=rbnd (a ρ S) (fun x S1=>rbnd (b ρ S1) (fun y S2=>rbnd (o x y S2) (fun z S3=>rbnd (dB z S3) (fun k S4=>if k then rbnd (c ρ S4) (fun w S5=>o' y w S5) .mk else .ok (.bl false) S4) .mk) .mk) .mk) .mk:=by
 unfold zFq
 rw [zBQ]
 cases a ρ S with
 | bad=>rfl
 | er _ _=>rfl
 | ok x S1 =>
  rw [zAY,zAY,zBQ]
  cases b ρ S1 with
  | bad=>rfl
  | er _ _=>rfl
  | ok y S2 =>
   rw [zAY,zAY,zBQ]
   cases o x y S2 with
   | bad=>rfl
   | er _ _=>rfl
   | ok z S3 =>
    rw [zAY,zAY,zBQ]
    cases dB z S3 with
    | bad=>rfl
    | er _ _=>rfl
    | ok k S4=>cases k <;> rfl
@[simp] theorem zaQ (a:C) (ρ:Env1) (S:zA0):cTru a ρ S=rbnd (a ρ S) (fun x S1=>dTru x S1) .mk:=rfl
@[simp] theorem zaM (b:Bool) (S:zA0):dTru (.bl b) S=.ok b S:=rfl
@[simp] theorem zZ1 (i:Int) (S:zA0):dTru (.int i) S=.ok (i != 0) S:=rfl
@[simp] theorem zZ0 (xs:List D) (S:zA0):dTru (.tup xs) S=.ok (!xs.isEmpty) S:=rfl
@[simp] theorem zVN (ρ:Env1) (S:zA0):zCM ρ S=.ok none S:=rfl
@[simp] theorem zZ3 (a:C) (ρ:Env1) (S:zA0):zEY a ρ S=rbnd (a ρ S) (fun x S1=>rbnd (dInt x S1) (fun i S2=>.ok (some i) S2) .mk) .mk:=rfl
@[simp] theorem zaN (i:Int) (S:zA0):dInt (.int i) S=.ok i S:=rfl
@[simp] theorem zbe (o:D→Option Int→Option Int→M D) (a:C) (lo hi:CO) (ρ:Env1) (S:zA0):cSl o a lo hi ρ S=rbnd (a ρ S) (fun x S1=>rbnd (lo ρ S1) (fun l S2=>rbnd (hi ρ S2) (fun h S3=>o x l h S3) .mk) .mk) .mk:=rfl
@[simp] theorem zZ6 (T:String) (o:D→List D→M D) (a:C) (as:CA) (ρ:Env1) (S:zA0):zG1 T o a as ρ S=rbnd (a ρ S) (fun x S1=>if tyOk T x S1 then rbnd (as ρ S1) (fun xs S2=>o x xs S2) .mk else .bad) .mk:=rfl
@[simp] theorem zaC (c:C) (ρ:Env1) (S:zA0):iSeq c ρ S=rbnd (c ρ S) (fun x S1=>match x with
 | .tup xs=>.ok (xs,[]) S1
 | .lst n=>match zA6 S1 n with
  | some xs=>.ok (xs,[(n,xs)]) S1
  | none=>.bad
 | .cd ks vs=>.ok (ks.map fun k=>.tup (k.map kD),[]) S1
 | _=>.bad) .mk:=rfl
@[simp] theorem zVK (a:CA) (ρ:Env1) (S:zA0):zB4 a ρ S=rbnd (a ρ S) (fun xs S1=>match xs with
 | [.int j]=>if -4611686018427387904≤j∧j<4611686018427387904 then .ok (upD 0 j.toNat,[]) S1 else .bad
 | _=>.bad) .mk:=rfl
@[simp] theorem zVJ (a:CA) (ρ:Env1) (S:zA0):zJn a ρ S=rbnd (a ρ S) (fun xs S1=>match xs with
 | [.int i,.int j]=>if -4611686018427387904≤i∧i<4611686018427387904∧-4611686018427387904≤j∧j<4611686018427387904 then .ok (upD i (j - i).toNat,[]) S1 else .bad
 | _=>.bad) .mk:=rfl
@[simp] theorem zYV (a:CA) (ρ:Env1) (S:zA0):zI2 a ρ S=rbnd (a ρ S) (fun xs S1=>match xs with
 | [x,y]=>match zsAt S1 x,zsAt S1 y with
  | some ys,some zs=>.ok (zipD ys zs,zDP x ys++zDP y zs) S1
  | _,_=>.bad
 | _=>.bad) .mk:=rfl
@[simp] theorem zTx (n:Nat) (xs:List D):zDP (.lst n) xs=[(n,xs)]:=rfl
@[simp] theorem zTw (ys:List D) (xs:List D):zDP (.tup ys) xs=[]:=rfl
@[simp] theorem zYF (S:zA0) (n:Nat):zsAt S (.lst n)=zA6 S n:=rfl
@[simp] theorem zYE (S:zA0) (xs:List D):zsAt S (.tup xs)=some xs:=rfl
@[simp] theorem zXS (a:CA) (ρ:Env1) (S:zA0):zKy a ρ S=rbnd (a ρ S) (fun xs S1=>match xs with
 | [.tup ys]=>.ok (zEW ys,[]) S1
 | [.lst n]=>match zA6 S1 n with
  | some ys=>.ok (zEW ys,[(n,ys)]) S1
  | none=>.bad
 | _=>.bad) .mk:=rfl
@[simp] theorem zZ9 (it:CI) (k:Nat) (js:List Nat) (t:Tgt) (tc:CT) (c:C) (ρ:Env1) (S:zA0):zBe it k js t tc c ρ S=rbnd (it ρ S) (fun p S1=>if p.1.length<lim then rbnd (zAq p.2 t tc c (stE k js ρ) p.1 S1) (fun ys S'=>.ok (.lst S'.length) (S'++[.lst ys])) .mk else .bad) .mk:=rfl
@[simp] theorem zZ8 (ρ:Env1) (S:zA0):zSN ρ S=.ok (.dct S.length) (S++[.dk []]):=rfl
@[simp] theorem zZ7 (a b:C) (ρ:Env1) (S:zA0):zSM a b ρ S=rbnd (a ρ S) (fun x S1=>rbnd (b ρ S1) (fun y S2=>match zER x with
 | some k=>.ok (.dct S2.length) (S2++[.dk [(k,y)]])
 | none=>.bad) .mk) .mk:=rfl
@[simp] theorem zYT (i j:Int) (S:zA0):oAdd (.int i) (.int j) S=.ok (.int (i+j)) S:=rfl
@[simp] theorem zYS (xs ys:List D) (S:zA0):oAdd (.tup xs) (.tup ys) S=if xs.length+ys.length≤lim then .ok (.tup (xs++ys)) S else .bad:=rfl
@[simp] theorem zao (g:Int→Int→Int) (i j:Int) (S:zA0):oInt g (.int i) (.int j) S=.ok (.int (g i j)) S:=rfl
@[simp] theorem zYO (i j:Int) (S:zA0):oMul (.int i) (.int j) S=if zH8 i j then .ok (.int (i*j)) S else .bad:=rfl
@[simp] theorem zYP (i j:Int) (S:zA0):oMod (.int i) (.int j) S=if 0<j then .ok (.int (i % j)) S else .bad:=rfl
@[simp] theorem zYQ (i j:Int) (S:zA0):oDiv (.int i) (.int j) S=if 0<j∧j<1073741824 then .ok (.int (i / j)) S else .bad:=rfl
@[simp] theorem zYM (i j:Int) (S:zA0):oPow (.int i) (.int j) S=if 0≤j∧j≤1000000∧i.natAbs<18446744073709551616 then .ok (.int (i ^ j.toNat)) S else .bad:=rfl
@[simp] theorem zYL (i j:Int) (S:zA0):oShl (.int i) (.int j) S=if 0≤j∧j≤1000000∧i.natAbs<18446744073709551616 then .ok (.int (i*2 ^ j.toNat)) S else .bad:=rfl
@[simp] theorem zYK (i j:Int) (S:zA0):oShr (.int i) (.int j) S=if 0≤j then .ok (.int (i / 2 ^ j.toNat)) S else .bad:=rfl
@[simp] theorem zYN (i:Int) (S:zA0):oNeg (.int i) S=.ok (.int (-i)) S:=rfl
@[simp] theorem zYR (g:Int→Int→Bool) (i j:Int) (S:zA0):oCmp g (.int i) (.int j) S=.ok (.bl (g i j)) S:=rfl
@[simp] theorem zal (i j:Int) (S:zA0):oLt (.int i) (.int j) S=.ok (.bl (decide (i<j))) S:=rfl
theorem zQy (i j:Int):PyData.eqv (.int i) (.int j)=decide (i=j):=by
 show (i == j)=decide (i=j)
 rfl
@[simp] theorem zaq (i j:Int) (S:zA0):oEq (.int i) (.int j) S=.ok (.bl (decide (i=j))) S:=by
 show R.ok (D.bl (PyData.eqv (.int i) (.int j))) S=_
 rw [zQy]
@[simp] theorem zak (i j:Int) (S:zA0):oNe (.int i) (.int j) S=.ok (.bl (!decide (i=j))) S:=by
 show R.ok (D.bl (!PyData.eqv (.int i) (.int j))) S=_
 rw [zQy]
@[simp] theorem zbc (i j:Bool) (S:zA0):oEq (.bl i) (.bl j) S=.ok (.bl (i == j)) S:=by
 show R.ok (D.bl (PyData.eqv (.bool i) (.bool j))) S=_
 cases i <;> cases j <;> rfl
@[simp] theorem zba (i j:Bool) (S:zA0):oNe (.bl i) (.bl j) S=.ok (.bl (i != j)) S:=by
 show R.ok (D.bl (!PyData.eqv (.bool i) (.bool j))) S=_
 cases i <;> cases j <;> rfl
@[simp] theorem zan (x:D) (S:zA0):oIs x .non S=.ok (.bl x.isNon) S:=by cases x <;> rfl
@[simp] theorem zVI (x:D) (S:zA0):zKm x .non S=.ok (.bl (!x.isNon)) S:=by cases x <;> rfl
@[simp] theorem zbb (a b:Bool) (S:zA0):oIs (.bl a) (.bl b) S=.ok (.bl (a == b)) S:=rfl
@[simp] theorem zXw (a b:Bool) (S:zA0):zKm (.bl a) (.bl b) S=.ok (.bl (a != b)) S:=rfl
@[simp] theorem zaG (i j:Int) (S:zA0):fMin [.int i,.int j] S=.ok (.int (if j<i then j else i)) S:=rfl
@[simp] theorem zaH (i j:Int) (S:zA0):fMax [.int i,.int j] S=.ok (.int (if j>i then j else i)) S:=rfl
@[simp] theorem zYY (i:Int) (S:zA0):fInt [.int i] S=.ok (.int i) S:=rfl
@[simp] theorem zaI (b:Bool) (S:zA0):fInt [.bl b] S=.ok (.int (if b then 1 else 0)) S:=rfl
@[simp] theorem zVL (xs:List D) (S:zA0):zAh [.tup xs] S=.ok (.tup xs) S:=rfl
theorem zAg {n:Nat}{xs:List D}{S:zA0} (h:zA6 S n=some xs):zAh [.lst n] S=.ok (.tup xs) S:=by
 show (match zA6 S n with | some ys=>R.ok (D.tup ys) S | none=>.bad)=_
 rw [h]
@[simp] theorem zNf (xs:List D) (S:zA0):fLen [.tup xs] S=.ok (.int xs.length) S:=rfl
@[simp] theorem zYX (xs:List D) (S:zA0):fLen [.rol xs] S=.ok (.int xs.length) S:=rfl
theorem zDD {n:Nat}{xs:List D}{S:zA0} (h:zA6 S n=some xs):fLen [.lst n] S=.ok (.int xs.length) S:=by
 show (match zJ5 S (.lst n) with | some ys=>R.ok (D.int ys.length) S | none=>.bad)=_
 show (match zA6 S n with | some ys=>R.ok (D.int ys.length) S | none=>.bad)=_
 rw [h]
@[simp] theorem zY1 (xs:List D) (S:zA0):zQx [.tup xs] S=.ok (.lst S.length) (S++[.lst xs]):=rfl
@[simp] theorem zPN (xs:List D) (j:Int) (S:zA0):oIx (.tup xs) (.int j) S=match atI xs j with | some d=>.ok d S | none=>.bad:=rfl
@[simp] theorem zam (xs:List D) (j:Int) (S:zA0):oIx (.rol xs) (.int j) S=match atI xs j with | some d=>.ok d S | none=>.bad:=rfl
theorem zFJ {n:Nat}{xs:List D}{S:zA0} (h:zA6 S n=some xs) (j:Int):oIx (.lst n) (.int j) S=match atI xs j with | some d=>.ok d S | none=>.bad:=by
 show (match zA6 S n,D.int j with | some xs,.int j=>(match atI xs j with | some d=>R.ok d S | none=>.bad) | _,_=>.bad)=_
 rw [h]
@[simp] theorem zaj (xs:List D) (lo hi:Option Int) (S:zA0):oSl (.tup xs) lo hi S=.ok (.tup (cutD xs lo hi)) S:=rfl
theorem zUJ {n:Nat}{xs:List D}{S:zA0} (h:zA6 S n=some xs) (lo hi:Option Int):oSl (.lst n) lo hi S=.ok (.lst S.length) (S++[.lst (cutD xs lo hi)]):=by
 show (match zA6 S n with | some xs=>R.ok (D.lst S.length) (S++[O.lst (cutD xs lo hi)]) | none=>.bad)=_
 rw [h]
@[simp] theorem zbs {α:Type} (x:α) (xs:List α):atI (x::xs) 0=some x:=zCQ (j:=0) rfl
@[simp] theorem zbr {α:Type} (x y:α) (xs:List α):atI (x::y::xs) 1=some y:=zCQ (j:=1) rfl
@[simp] theorem zbq {α:Type} (x y z:α) (xs:List α):atI (x::y::z::xs) 2=some z:=zCQ (j:=2) rfl
@[simp] theorem zbp {α:Type} (x y z w:α) (xs:List α):atI (x::y::z::w::xs) 3=some w:=zCQ (j:=3) rfl
structure Kp (P:Nat→Prop) (S S':zA0):Prop where
 le:S.length≤S'.length
 eq:∀ j,j<S.length→¬ P j→S'[j]?=S[j]?
noncomputable abbrev Ex:zA0→zA0→Prop:=Kp fun _=>False
inductive Spc {α:Type} (m:R α) (r:α) (S:zA0):Prop
 | mk (S1:zA0) (e:m=.ok r S1) (x:Ex S S1)
theorem Kp.refl (P:Nat→Prop) (S:zA0):Kp P S S:=⟨qB0 _,fun _ _ _=>rfl⟩
theorem Kp.trans {P:Nat→Prop}{S S1 S2:zA0} (a:Kp P S S1) (b:Kp P S1 S2):Kp P S S2:=⟨qC6 a.le b.le,fun j h n=>(b.eq j (qB8 h a.le) n).trans (a.eq j h n)⟩
theorem Ex.kp {P:Nat→Prop}{S S':zA0} (h:Ex S S'):Kp P S S':=⟨h.le,fun j hj _=>h.eq j hj (fun z=>z)⟩
theorem Kp.kp {P:Nat→Prop}{S S':zA0} (h:Kp (fun _=>False) S S'):Kp P S S':=⟨h.le,fun j hj _=>h.eq j hj (fun z=>z)⟩
theorem Kp.mono {P Q:Nat→Prop}{S S':zA0} (h:Kp P S S') (m:∀ j,j<S.length→P j→Q j):Kp Q S S':=⟨h.le,fun j hj n=>h.eq j hj fun z=>n (m j hj z)⟩
theorem zA7 (S T:zA0):Ex S (S++T):=⟨by simp,fun j h _=>qC1 h⟩
theorem zHe {i:Nat} (S:zA0) (o:O):Kp (·=i) S (S.set i o):=⟨by simp,fun j h n=>qD7 fun z=>n z.symm⟩
theorem Kp.at {P:Nat→Prop}{S S':zA0} (h:Kp P S S') {j:Nat}{o:O} (e:S[j]?=some o) (n:¬ P j):S'[j]?=some o:=by
 rw [h.eq j (qA5.mp e).1 n]; exact e
theorem zAZ {S:zA0}{n:Nat}{xs:List D} (h:zA6 S n=some xs):S[n]?=some (.lst xs):=by
 unfold zA6 at h
 split at h
 ·rename_i ys e; cases h; exact e
 ·cases h
theorem zFd {S:zA0}{n:Nat}{xs:List D} (h:S[n]?=some (.lst xs)):zA6 S n=some xs:=by unfold zA6; rw [h]
theorem Kp.lst {P:Nat→Prop}{S S':zA0} (h:Kp P S S') {j:Nat}{xs:List D} (e:zA6 S j=some xs) (n:¬ P j):zA6 S' j=some xs:=zFd (h.at (zAZ e) n)
theorem zEs {S:zA0}{n:Nat}{xs:List D} (h:zA6 S n=some xs):n<S.length:=(qA5.mp (zAZ h)).1
@[simp] theorem zA3 (S:zA0) (xs:List D):zA6 (S++[.lst xs]) S.length=some xs:=zFd (by rw [qB6 (qB0 _),qJ6]; rfl)
theorem zCs {S T:zA0}{n:Nat}{xs:List D} (h:zA6 S n=some xs):zA6 (S++T) n=some xs:=(zA7 S T).lst h fun z=>z
theorem zC1 {S:zA0}{n:Nat}{xs ys:List D} (h:zA6 S n=some xs):zA6 (S.set n (.lst ys)) n=some ys:=zFd (qD4 (zEs h))
theorem zCl {S:zA0}{n:Nat}{xs:List D} (h:zA6 S n=some xs):tyOk "list" (.lst n) S=true:=by
 show (decide ("list" = "list")&&(zA6 S n).isSome)=true
 rw [h]; rfl
theorem zEq {S:zA0}{n:Nat}{ys:List D} (h:zA6 S n=some ys) (g:List D→List D→Option (List D × D)) (xs:List D):zDz g (.lst n) xs S=match g ys xs with | some p=>.ok p.2 (S.set n (.lst p.1)) | none=>.bad:=by
 unfold zDz
 dsimp only
 rw [zAZ h]
 dsimp only
 cases g ys xs with
 | none=>rfl
 | some p=>rfl
@[simp] theorem zIG (ys:List D) (x:D):zC2 ys [x]=if ys.length<lim then some (ys++[x],.non) else none:=rfl
@[simp] theorem zO7 (ys:List D) (i:Int) (x:D):zDC ys [.int i,x]=if ys.length<1000∧0≤i∧i.toNat≤ys.length then some (ys.take i.toNat++x::ys.drop i.toNat,.non) else none:=rfl
theorem zMV {S:zA0}{n:Nat}{ys:List D} (h:zA6 S n=some ys) (k:Int) (v:D):oSet (.lst n) (.int k) v S=match ixN ys.length k with | some j=>some (S.set n (.lst (ys.set j v))) | none=>none:=by
 unfold oSet
 dsimp only
 rw [zAZ h]
 all_goals (dsimp only; cases ixN ys.length k <;> rfl)
theorem zAp (S:zA0):okW [] S:=fun p h=>by cases h
theorem zCz {S:zA0}{n:Nat}{xs:List D} (h:zA6 S n=some xs):okW [(n,xs)] S:=fun p hp=>by
 simp at hp; subst hp; exact h
theorem zUF {S:zA0}{n m:Nat}{xs ys:List D} (h:zA6 S n=some xs) (h2:zA6 S m=some ys):okW [(n,xs),(m,ys)] S:=fun p hp=>by
 simp at hp
 rcases hp with rfl | rfl
 ·exact h
 ·exact h2
theorem zPY {w:zDv}{g:G}{b:CS}:∀ (items:List D) (P:Nat→Env1→zA0→Prop) {ρ:Env1}{S:zA0} (k:Nat),(∀ i ρ S,P i ρ S→okW w S)→P k ρ S →
  (∀ i d ρ S,items[i]?=some d→P (k+i) ρ S→∃ ρ1 S1,g d ρ S=.ok ρ1 S1∧∃ ρ2 S2,(b ρ1 S1=.nx ρ2 S2∨b ρ1 S1=.ct ρ2 S2)∧P (k+i+1) ρ2 S2)→∃ ρ' S',zBC w g b items ρ S=.nx ρ' S'∧P (k+items.length) ρ' S'
 | [],P,ρ,S,k,hw,h0,hs=>⟨ρ,S,by unfold zBC; rw [if_pos (hw k ρ S h0)],by simpa using h0⟩
 | d::ds,P,ρ,S,k,hw,h0,hs=>by
  obtain ⟨ρ1,S1,e1,ρ2,S2,e2,p2⟩:=hs 0 d ρ S rfl (by simpa using h0)
  obtain ⟨ρ',S',e3,p3⟩:=zPY ds P (k+1) hw (by simpa using p2) (fun i d' ρ S hi hp=>by
   obtain ⟨ρ1,S1,q1,ρ2,S2,q2,q3⟩:=hs (i+1) d' ρ S (by rw [qE1]; exact hi) (by rw [show k+(i+1)=k+1+i by omega]; exact hp)
   exact ⟨ρ1,S1,q1,ρ2,S2,q2,by rw [show k+1+i+1=k+(i+1)+1 by omega]; exact q3⟩)
  refine ⟨ρ',S',?_,by rw [qD0,show k+(ds.length+1)=k+1+ds.length by omega]; exact p3⟩
  unfold zBC
  rw [if_pos (hw k ρ S h0),e1]
  dsimp only
  rcases e2 with e2 | e2
  ·rw [e2]; exact e3
  ·rw [e2]; exact e3
inductive zaW (r:RS) (P:Env1→zA0→Prop):Prop
 | mk (ρ2:Env1) (S2:zA0) (h:r=.nx ρ2 S2∨r=.ct ρ2 S2) (p:P ρ2 S2)
inductive zaV (g:G) (b:CS) (d:D) (ρ:Env1) (S:zA0) (P:Env1→zA0→Prop):Prop
 | mk (ρ1:Env1) (S1:zA0) (e:g d ρ S=.ok ρ1 S1) (t:zaW (b ρ1 S1) P)
inductive zb2 (r:RS) (P:Env1→zA0→Prop):Prop
 | mk (ρ':Env1) (S':zA0) (e:r=.nx ρ' S') (p:P ρ' S')
theorem zBd {w:zDv}{g:G}{b:CS}{items:List D} (P:Nat→Env1→zA0→Prop) {ρ:Env1}{S:zA0} (hw:∀ i ρ S,P i ρ S→okW w S) (h0:P 0 ρ S)
  (hs:∀ i d ρ S,items[i]?=some d→P i ρ S→zaV g b d ρ S (P (i+1))):zb2 (zBC w g b items ρ S) (P items.length):=by
 obtain ⟨ρ',S',e,p⟩:=zPY items P 0 hw h0 (fun i d ρ S hi hp=>by
  obtain ⟨ρ1,S1,q1,ρ2,S2,q2,q3⟩:=hs i d ρ S hi (by simpa using hp)
  exact ⟨ρ1,S1,q1,ρ2,S2,q2,by simpa using q3⟩)
 exact ⟨ρ',S',e,by simpa using p⟩
inductive zYD (m:R (List D)) (r:List D) (P:zA0→Prop):Prop
 | mk (S':zA0) (e:m=.ok r S') (p:P S')
theorem zDF {α:Type} (e:α→D) {w:zDv}{t:Tgt}{tc:CT}{c:C}{ρ0:Env1} (P:zA0→Prop) (hw:∀ S,P S→okW w S) (p:α→Bool) (f:α→D):∀ (l:List α) {S:zA0},P S →
  (∀ a∈l,∀ S,P S→∃ ρ1,zHK t (e a) ρ0=some ρ1∧∃ S1,tc ρ1 S=.ok (p a) S1∧(p a=false→P S1)∧(p a=true→∃ S2,c ρ1 S1=.ok (f a) S2∧P S2))→zYD (zAq w t tc c ρ0 (l.map e) S) ((l.filter p).map f) P
 | [],S,h0,hs=>⟨S,by rw [qJ4]; unfold zAq; rw [if_pos (hw S h0)]; rfl,h0⟩
 | d::ds,S,h0,hs=>by
  obtain ⟨ρ1,e1,S1,e2,hf,ht⟩:=hs d (by simp) S h0
  rw [qC5]
  unfold zAq
  rw [if_pos (hw S h0),e1]
  dsimp only
  rw [zBQ,e2,zAY]
  cases hp:p d with
  | false =>
   obtain ⟨S',e3,h3⟩:=zDF e P hw p f ds (hf hp) fun d' hd=>hs d' (by simp [hd])
   exact ⟨S',by rw [if_neg qA7,e3,qE0,hp]; rfl,h3⟩
  | true =>
   obtain ⟨S2,e4,h4⟩:=ht hp
   obtain ⟨S',e3,h3⟩:=zDF e P hw p f ds h4 fun d' hd=>hs d' (by simp [hd])
   exact ⟨S',by rw [if_pos rfl,zBQ,e4,zAY,zBQ,e3,zAY,qE0,hp]; rfl,h3⟩
theorem zDl {α:Type} (e:α→D) {w:zDv}{t:Tgt}{c:C}{ρ0:Env1} (P:zA0→Prop) (hw:∀ S,P S→okW w S) (f:α→D) (l:List α) {S:zA0} (h0:P S)
  (hs:∀ a∈l,∀ S,P S→∃ ρ1,zHK t (e a) ρ0=some ρ1∧∃ S2,c ρ1 S=.ok (f a) S2∧P S2):zYD (zAq w t (fun _=>ret true) c ρ0 (l.map e) S) (l.map f) P:=by
 obtain ⟨S',e,h⟩:=zDF e (w:=w) (t:=t) (tc:=fun _=>ret true) (c:=c) (ρ0:=ρ0) P hw (fun _=>true) f l h0 (fun d hd S h=>by
  obtain ⟨ρ1,e1,S2,e2,h2⟩:=hs d hd S h
  exact ⟨ρ1,e1,S,rfl,(fun z=>by cases z),fun _=>⟨S2,e2,h2⟩⟩)
 exact ⟨S',by rw [e,qM3.mpr (by simp)],h⟩
theorem zBF {α:Type} (e:α→D) {w:zDv}{t:Tgt}{tc:CT}{c:C}{ρ0:Env1}{S:zA0} (hw:okW w S) (p:α→Bool) (f:α→D) (l:List α)
  (hs:∀ a∈l,∃ ρ1,zHK t (e a) ρ0=some ρ1∧tc ρ1 S=.ok (p a) S∧(p a=true→c ρ1 S=.ok (f a) S)):zAq w t tc c ρ0 (l.map e) S=.ok ((l.filter p).map f) S:=by
 obtain ⟨S',e1,h⟩:=zDF e (w:=w) (t:=t) (tc:=tc) (c:=c) (ρ0:=ρ0) (fun S'=>S'=S) (fun S' z=>z▸hw) p f l rfl (fun a ha S' z=>by
  subst z
  obtain ⟨ρ1,q1,q2,q3⟩:=hs a ha
  exact ⟨ρ1,q1,S',q2,fun _=>rfl,fun z=>⟨S',q3 z,rfl⟩⟩)
 rw [e1,h]
theorem zCh {α:Type} (e:α→D) {w:zDv}{t:Tgt}{c:C}{ρ0:Env1}{S:zA0} (hw:okW w S) (f:α→D) (l:List α)
  (hs:∀ a∈l,∃ ρ1,zHK t (e a) ρ0=some ρ1∧c ρ1 S=.ok (f a) S):zAq w t (fun _=>ret true) c ρ0 (l.map e) S=.ok (l.map f) S:=by
 have:=zBF e (tc:=fun _=>ret true) (c:=c) hw (fun _=>true) f l (fun a ha=>by
  obtain ⟨ρ1,q1,q2⟩:=hs a ha
  exact ⟨ρ1,q1,rfl,fun _=>q2⟩)
 rw [this,qM3.mpr (by simp)]
theorem zIW {t:CT}{b:CS} (P:Nat→Env1→zA0→Prop) (Q:Env1→zA0→Prop) (hs:∀ m ρ S,P m ρ S→(∃ S1,t ρ S=.ok false S1∧Q ρ S1)∨∃ S1,t ρ S=.ok true S1∧∃ ρ2 S2,(b ρ S1=.nx ρ2 S2∨b ρ S1=.ct ρ2 S2)∧∃ m',m'<m∧P m' ρ2 S2) :
  ∀ (k m:Nat) (ρ:Env1) (S:zA0),m<k→P m ρ S→∃ ρ' S',zDJ k t b ρ S=.nx ρ' S'∧Q ρ' S'
 | 0,m,ρ,S,hk,h=>absurd hk (qR3 _)
 | k+1,m,ρ,S,hk,h=>by
  unfold zDJ
  rcases hs m ρ S h with ⟨S1,e,q⟩ | ⟨S1,e,ρ2,S2,e2,m',hm,p2⟩
  ·rw [e]; exact ⟨ρ,S1,rfl,q⟩
  ·obtain ⟨ρ',S',e3,q⟩:=zIW P Q hs k m' ρ2 S2 (by omega) p2
   rw [e]
   dsimp only
   rcases e2 with e2 | e2
   ·rw [e2]; exact ⟨ρ',S',e3,q⟩
   ·rw [e2]; exact ⟨ρ',S',e3,q⟩
noncomputable def dkOf (fs:List Int):List (Key × D):=fs.map fun x=>((Sum.inl x:Key),D.bl true)
noncomputable def addK (fs:List Int) (a:Int):List Int:=if a∈fs then fs else fs++[a]
theorem zY7 (fs:List Int) (a:Int):((dkOf fs).any fun kv=>decide (kv.1=(Sum.inl a:Key)))=decide (a∈fs):=by
 induction fs with
 | nil=>rfl
 | cons x r ih =>
  show (decide ((Sum.inl x:Key)=Sum.inl a)||(dkOf r).any _)=_
  rw [ih]
  by_cases h:x=a
  ·subst h; simp
  ·have:(Sum.inl x:Key)≠Sum.inl a:=fun z=>h (Sum.inl.inj z)
   simp [this,Ne.symm h]
theorem zY6 (fs:List Int) (a:Int):putD (dkOf fs) (.inl a) (.bl true)=dkOf (addK fs a):=by
 unfold putD addK
 rw [zY7]
 by_cases h:a∈fs
 ·rw [if_pos (by simpa using h),if_pos h]
  unfold dkOf
  rw [qC0]
  refine qD5 fun x _=>?_
  show (if (Sum.inl x:Key)=Sum.inl a then ((Sum.inl x:Key),D.bl true) else (Sum.inl x,D.bl true))=_
  split <;> rfl
 ·rw [if_neg (by simpa using h),if_neg h]
  unfold dkOf
  simp
theorem zY5 (fs:List Int) (a:Int):valD (dkOf fs) (.inl a)=if a∈fs then some (.bl true) else none:=by
 unfold valD
 induction fs with
 | nil=>rfl
 | cons x r ih =>
  show Option.map _ (List.find? _ (((Sum.inl x:Key),D.bl true)::dkOf r))=_
  rw [qE3]
  by_cases h:x=a
  ·subst h; simp
  ·have:(Sum.inl x:Key)≠Sum.inl a:=fun z=>h (Sum.inl.inj z)
   simp only [this,decide_false]
   rw [ih]
   simp [Ne.symm h]
theorem zMW {S:zA0}{m:Nat}{fs:List Int} (h:S[m]?=some (.dk (dkOf fs))) (neg:Bool) (a:Int):oIn neg (.int a) (.dct m) S=.ok (.bl (if neg then !decide (a∈fs) else decide (a∈fs))) S:=by
 have e:dictAt S m (.int a)=some (if a∈fs then some (.bl true) else none):=by
  unfold dictAt
  rw [h]
  show some (valD (dkOf fs) (.inl a))=_
  rw [zY5]
 show (match dictAt S m (.int a) with | some o=>R.ok (D.bl (if neg then !o.isSome else o.isSome)) S | none=>.bad)=_
 rw [e]
 by_cases hm:a∈fs
 ·simp [hm]
 ·simp [hm]
theorem zPL {S:zA0}{m:Nat}{fs:List Int} (h:S[m]?=some (.dk (dkOf fs))) (hl:fs.length<lim) (a:Int):oSet (.dct m) (.int a) (.bl true) S=some (S.set m (.dk (dkOf (addK fs a)))):=by
 unfold oSet
 dsimp only
 rw [h]
 show (if (dkOf fs).length<lim then some (S.set m (.dk (putD (dkOf fs) (.inl a) (.bl true)))) else none)=_
 rw [if_pos (by unfold dkOf; rw [qA2]; exact hl),zY6]
theorem zN1 {fs:List Int}{a x:Int}:x∈addK fs a↔x∈fs∨x=a:=by
 unfold addK
 split
 ·rename_i h
  exact ⟨.inl,fun z=>z.elim id fun e=>e▸h⟩
 ·simp
@[simp] theorem zYt (d:D) (ρ:Env1):zHK .one d ρ=some (ρ.set 0 (some d)):=rfl
@[simp] theorem zYs (x y:D) (ρ:Env1):zHK (.many 2) (.tup [x,y]) ρ=some ((ρ.set 0 (some x)).set 1 (some y)):=rfl
@[simp] theorem zb7 (k:Nat) (js:List Nat) (ρ:Env1):stE k js ρ=qC2 k none++js.map fun j=>(ρ[j]?).getD none:=rfl
theorem zPo {np nN:Nat}{b:CS}{ds:List D}{S:zA0} (h:ds.length=np):runF np nN b ds S=match b (zAu nN ds) S with
 | .nx _ S'=>.ok .non S'
 | .rt d S'=>.ok d S'
 | .er c S'=>.er c S'
 | _=>.bad:=by
 unfold runF
 rw [if_pos h]
 all_goals (cases b (zAu nN ds) S <;> rfl)
theorem zAa {np nN:Nat}{b:CS}{ds:List D}{S S':zA0}{d:D} (h:ds.length=np) (e:b (zAu nN ds) S=.rt d S'):runF np nN b ds S=.ok d S':=by rw [zPo h,e]
theorem zT2 {np nN:Nat}{b:CS}{ds:List D}{S S':zA0}{ρ:Env1} (h:ds.length=np) (e:b (zAu nN ds) S=.nx ρ S'):runF np nN b ds S=.ok .non S':=by rw [zPo h,e]
open PySem
noncomputable def plain:Nat→D→Bool
 | 0,_=>false
 | n+1,d=>match d with
  | .int _=>true
  | .non=>true
  | .str x=>PyData.strOk x
  | .tup xs=>xs.all (plain n)
  | _=>false
noncomputable def pdat:Nat→D→PyData
 | 0,_=>.none
 | n+1,d=>match d with
  | .int i=>.int i
  | .str x=>.str x
  | .tup xs=>.tuple (xs.map (pdat n))
  | _=>.none
theorem zHc {α β:Type}{f:α→Option β}{g:α→β}{l:List α} (h:∀ x∈l,f x=some (g x)):l.mapM f=some (l.map g):=by
 induction l with
 | nil=>rfl
 | cons a r ih =>
  rw [qF8,h a (by simp),ih fun x hx=>h x (by simp [hx])]
  rfl
theorem zBN:∀ {n:Nat}{d:D} (S:zA0),plain n d=true→snap n S d=some (pdat n d)
 | 0,d,S,h=>by cases h
 | n+1,d,S,h=>by
  unfold plain at h
  unfold snap pdat
  cases d with
  | int i=>rfl
  | non=>rfl
  | str x=>dsimp only at h ⊢; rw [if_pos h]
  | tup xs =>
   dsimp only at h ⊢
   rw [zHc (g:=pdat n) fun x hx=>zBN S (qE5.mp h x hx)]
   rfl
  | _=>cases h
theorem zFV {n:Nat} (ih:∀ d e,plain n d=true→plain n e=true→(PyData.eqv (pdat n d) (pdat n e)=true↔d=e)):∀ (xs ys:List D),xs.all (plain n)=true→ys.all (plain n)=true→(PyData.eqvAll (xs.map (pdat n)) (ys.map (pdat n))=true↔xs=ys)
 | [],[],_,_=>by simp [PyData.eqvAll]
 | [],y::ys,_,_=>by simp [PyData.eqvAll]
 | x::xs,[],_,_=>by simp [PyData.eqvAll]
 | x::xs,y::ys,h1,h2=>by
  rw [qJ8,qC7] at h1 h2
  rw [qC5,qC5]
  show (PyData.eqv (pdat n x) (pdat n y)&&PyData.eqvAll (xs.map (pdat n)) (ys.map (pdat n)))=true↔_
  rw [qC7,ih x y h1.1 h2.1,zFV ih xs ys h1.2 h2.2,qQ9.injEq]
theorem zDi:∀ (n:Nat) (d e:D),plain n d=true→plain n e=true→(PyData.eqv (pdat n d) (pdat n e)=true↔d=e)
 | 0,d,e,h,_=>by cases h
 | n+1,d,e,h1,h2=>by
  unfold plain at h1 h2
  unfold pdat
  cases d with
  | int i =>
   cases e with
   | int j=>simp [PyData.eqv]
   | non=>simp [PyData.eqv]
   | str y=>simp [PyData.eqv]
   | tup ys=>simp [PyData.eqv]
   | _=>cases h2
  | non =>
   cases e with
   | int j=>simp [PyData.eqv]
   | non=>simp [PyData.eqv]
   | str y=>simp [PyData.eqv]
   | tup ys=>simp [PyData.eqv]
   | _=>cases h2
  | str x =>
   cases e with
   | int j=>simp [PyData.eqv]
   | non=>simp [PyData.eqv]
   | str y=>simp [PyData.eqv]
   | tup ys=>simp [PyData.eqv]
   | _=>cases h2
  | tup xs =>
   cases e with
   | int j=>simp [PyData.eqv]
   | non=>simp [PyData.eqv]
   | str y=>simp [PyData.eqv]
   | tup ys =>
    show PyData.eqvAll (xs.map (pdat n)) (ys.map (pdat n))=true↔_
    rw [zFV (zDi n) xs ys h1 h2]
    simp
   | _=>cases h2
  | _=>cases h1
noncomputable def eqB {α:Type} (x y:α):Bool:=@decide (x=y) (Classical.propDecidable _)
theorem zCg {α:Type}{x y:α}:eqB x y=true↔x=y:=@decide_eq_true_iff _ (Classical.propDecidable _)
@[simp] theorem zYZ {α:Type} (x:α):eqB x x=true:=zCg.mpr rfl
theorem zCW {a b:Bool} (h:a=true↔b=true):a=b:=by cases a <;> cases b <;> simp at h ⊢
theorem zKn {x y:D} (S:zA0) (h1:plain 40 x=true) (h2:plain 40 y=true):oEq x y S=.ok (.bl (eqB x y)) S:=by
 unfold oEq
 split
 ·rename_i a b
  rw [zCW (a:=decide (a=b)) (b:=eqB (D.str a) (D.str b)) (by rw [zCg,decide_eq_true_iff]; exact ⟨fun q=>by rw [q],fun q=>by injection q⟩)]
 ·rw [zBN S h1,zBN S h2]
  dsimp only
  rw [zCW ((zDi 40 x y h1 h2).trans zCg.symm)]
theorem zFa {x y:D} (S:zA0) (h1:plain 40 x=true) (h2:plain 40 y=true):oNe x y S=.ok (.bl (!eqB x y)) S:=by
 unfold oNe
 split
 ·rename_i a b
  rw [zCW (a:=decide (a=b)) (b:=eqB (D.str a) (D.str b)) (by rw [zCg,decide_eq_true_iff]; exact ⟨fun q=>by rw [q],fun q=>by injection q⟩)]
 ·rw [zBN S h1,zBN S h2]
  dsimp only
  rw [zCW ((zDi 40 x y h1 h2).trans zCg.symm)]
theorem zMJ {S:zA0}{k:Nat}{xs:List D} (h:zA6 S k=some xs) (hp:xs.all (plain 39)=true):snap 40 S (.lst k)=some (.list (xs.map (pdat 39))):=by
 show (match zA6 S k with | some xs=>(xs.mapM (snap 39 S)).map PyData.list | none=>none)=_
 rw [h]
 dsimp only
 rw [zHc (g:=pdat 39) fun x hx=>zBN S (qE5.mp hp x hx)]
 rfl
theorem zPM {S:zA0}{a b:Nat}{xs ys:List D} (h1:zA6 S a=some xs) (h2:zA6 S b=some ys) (p1:xs.all (plain 39)=true) (p2:ys.all (plain 39)=true):oNe (.lst a) (.lst b) S=.ok (.bl (!eqB xs ys)) S:=by
 unfold oNe
 dsimp only
 rw [zMJ h1 p1,zMJ h2 p2]
 dsimp only
 rw [zCW ((show PyData.eqv (.list (xs.map (pdat 39))) (.list (ys.map (pdat 39)))=true↔xs=ys from zFV (zDi 39) xs ys p1 p2).trans zCg.symm)]
theorem zF8 {n:Nat} (h:0<n) (i:Int):plain n (.int i)=true:=by
 cases n with
 | zero=>cases h
 | succ n=>rfl
theorem zC0 {n:Nat}{xs:List D} (h:∀ x∈xs,plain n x=true):plain (n+1) (.tup xs)=true:=qE5.mpr h
theorem zFH {n:Nat} (h:0<n) (l:List Int):∀ x∈l.map D.int,plain n x=true:=fun x hx=>by
 obtain ⟨i,_,rfl⟩:=qA9.mp hx
 exact zF8 h i
@[simp] theorem zSv (i:Int) (S:zA0):zC3 [.int i,.ty "bool"] S=.ok (.bl false) S:=rfl
@[simp] theorem zTb (i:Int) (S:zA0):zC3 [.int i,.ty "int"] S=.ok (.bl true) S:=rfl
@[simp] theorem zRj (i:Int) (S:zA0):zC3 [.int i,.ty "tuple"] S=.ok (.bl false) S:=rfl
@[simp] theorem zSu (i:Int) (S:zA0):zC3 [.int i,.ty "list"] S=.ok (.bl false) S:=rfl
@[simp] theorem zRl (b:Bool) (S:zA0):zC3 [.bl b,.ty "bool"] S=.ok (.bl true) S:=rfl
@[simp] theorem zSw (b:Bool) (S:zA0):zC3 [.bl b,.ty "int"] S=.ok (.bl true) S:=rfl
@[simp] theorem zQk (b:Bool) (S:zA0):zC3 [.bl b,.ty "tuple"] S=.ok (.bl false) S:=rfl
@[simp] theorem zRk (b:Bool) (S:zA0):zC3 [.bl b,.ty "list"] S=.ok (.bl false) S:=rfl
@[simp] theorem zN6  (S:zA0):zC3 [.non,.ty "bool"] S=.ok (.bl false) S:=rfl
@[simp] theorem zO3  (S:zA0):zC3 [.non,.ty "int"] S=.ok (.bl false) S:=rfl
@[simp] theorem zLM  (S:zA0):zC3 [.non,.ty "tuple"] S=.ok (.bl false) S:=rfl
@[simp] theorem zN5  (S:zA0):zC3 [.non,.ty "list"] S=.ok (.bl false) S:=rfl
@[simp] theorem zSt (x:Str) (S:zA0):zC3 [.str x,.ty "bool"] S=.ok (.bl false) S:=rfl
@[simp] theorem zTa (x:Str) (S:zA0):zC3 [.str x,.ty "int"] S=.ok (.bl false) S:=rfl
@[simp] theorem zRi (x:Str) (S:zA0):zC3 [.str x,.ty "tuple"] S=.ok (.bl false) S:=rfl
@[simp] theorem zSs (x:Str) (S:zA0):zC3 [.str x,.ty "list"] S=.ok (.bl false) S:=rfl
@[simp] theorem zQj (xs:List D) (S:zA0):zC3 [.tup xs,.ty "bool"] S=.ok (.bl false) S:=rfl
@[simp] theorem zRh (xs:List D) (S:zA0):zC3 [.tup xs,.ty "int"] S=.ok (.bl false) S:=rfl
@[simp] theorem zOD (xs:List D) (S:zA0):zC3 [.tup xs,.ty "tuple"] S=.ok (.bl true) S:=rfl
@[simp] theorem zQi (xs:List D) (S:zA0):zC3 [.tup xs,.ty "list"] S=.ok (.bl false) S:=rfl
open PySem
theorem zIE (ns:List Int):zGf (ns.map D.int)=some ns:=by
 induction ns with
 | nil=>rfl
 | cons a r ih=>show (zGf (r.map D.int)).map (a::·)=_; rw [ih]; rfl
theorem zM1 {n:Nat}{ns:List Int}{S:zA0} (h:zA6 S n=some (ns.map D.int)) (hl:ns.length<64):zCL [.lst n] S=.ok (.lst S.length) (S++[.lst ((zI0 ns).map D.int)]):=by
 unfold zCL
 simp only [h,Option.bind_some,zIE,if_pos hl]
theorem zIK (g:List Bool→Bool) (ns:List Int) (S:zA0):zEF g [.tup (ns.map D.int)] S=.ok (.bl (g (ns.map (· != 0)))) S:=by
 unfold zEF
 simp only [zIE]
theorem zKM (xs:List D) {k:Int} (h0:0≤k):cutD xs none (some k)=xs.take k.toNat:=by
 unfold cutD
 rw [show k=((k.toNat:Nat):Int) by omega,HT.sIx_nat,HT.sIx_none,Nat.sub_zero,qK6,qE8]
 by_cases h:k.toNat≤xs.length
 ·rw [qR4 h]
 ·rw [qN4 (by omega),qL2,qG1 (by omega)]
theorem zKN (xs:List D) {k:Int} (h0:0≤k):cutD xs (some k) none=xs.drop k.toNat:=by
 unfold cutD
 rw [show k=((k.toNat:Nat):Int) by omega,HT.sIx_nat,HT.sIx_none,qE8]
 by_cases h:k.toNat≤xs.length
 ·rw [qR4 h,qG1 (by simp)]
 ·rw [qN4 (by omega),qJ6,List.take_zero,qO1 (by omega)]
theorem zHd {α:Type} (e:α→D) {w:zDv}{g:G}{b:CS} (P:Env1→zA0→Prop) (R:zA0→Prop) (hw:∀ ρ S,P ρ S→okW w S) (p:α→Bool) (r:α→D):∀ (l:List α) {ρ:Env1}{S:zA0},P ρ S →
  (∀ a∈l,∀ ρ S,P ρ S→∃ ρ1 S1,g (e a) ρ S=.ok ρ1 S1∧((p a=true∧∃ S2,b ρ1 S1=.rt (r a) S2∧R S2)∨(p a=false∧∃ ρ2 S2,(b ρ1 S1=.nx ρ2 S2∨b ρ1 S1=.ct ρ2 S2)∧P ρ2 S2))) →
  (∃ a S',l.find? p=some a∧zBC w g b (l.map e) ρ S=.rt (r a) S'∧R S')∨(∃ ρ' S',l.find? p=none∧zBC w g b (l.map e) ρ S=.nx ρ' S'∧P ρ' S')
 | [],ρ,S,h0,hs=>.inr ⟨ρ,S,rfl,by rw [qJ4]; unfold zBC; rw [if_pos (hw ρ S h0)],h0⟩
 | a::l,ρ,S,h0,hs=>by
  obtain ⟨ρ1,S1,e1,h⟩:=hs a (by simp) ρ S h0
  rw [qC5]
  unfold zBC
  rw [if_pos (hw ρ S h0),e1]
  dsimp only
  rcases h with ⟨hp,S2,e2,r2⟩ | ⟨hp,ρ2,S2,e2,p2⟩
  ·exact .inl ⟨a,S2,by rw [qE3,hp],by rw [e2],r2⟩
  ·rcases zHd e P R hw p r l p2 (fun a ha=>hs a (by simp [ha])) with ⟨a',S',f1,f2,f3⟩ | ⟨ρ',S',f1,f2,f3⟩
   ·exact .inl ⟨a',S',by rw [qE3,hp]; exact f1,by rcases e2 with e2 | e2 <;> rw [e2] <;> exact f2,f3⟩
   ·exact .inr ⟨ρ',S',by rw [qE3,hp]; exact f1,by rcases e2 with e2 | e2 <;> rw [e2] <;> exact f2,f3⟩
theorem zXV {S:zA0}{n:Nat}{xs:List D} (h:zA6 S n=some xs) (gs:List G) (ρ:Env1):gT gs (.lst n) ρ S=gTs gs xs ρ S:=by
 unfold gT
 dsimp only
 rw [h]
end L2
namespace My
open PySem L2
noncomputable def zBR (cl:CLL):CS :=
 (sSeq (sRet (zOt (cApp zC3 (zA1 [(cVar 0),(cCon (.ty "int"))])) (zSL (cApp zC3 (zA1 [(cVar 0),(cCon (.ty "bool"))])))))
  zA5)
def zBM (cl:Nat→CLL):Prop:=∀ n,cl (n+1) "is_whole"=runF 1 1 (zBR (cl n))
noncomputable def zEM (cl:CLL):C :=
 (cBin oAdd (cTup (zA1 [(cCon (.int 0))])) (cVar 0))
noncomputable def zEL (cl:CLL):C :=
 (cBin oAdd (cTup (zA1 [(cCon (.int 1))])) (cVar 0))
noncomputable def zEK (cl:CLL):CS :=
 (sSeq (sAsg (cBin oAdd (zBe (iSeq (cVar 1)) 1 [] .one (fun _=>ret true) (zEM cl)) (zBe (iSeq (cVar 1)) 1 [] .one (fun _=>ret true) (zEL cl))) (gN 1))
  zA5)
noncomputable def zEx (cl:CLL):CS :=
 (sSeq (sAsg (cLst (zA1 [(cTup (zA1 []))])) (gN 1))
  (sSeq (sFor (zB4 (zA1 [(cVar 0)])) (gN 2) (zEK cl))
  (sSeq (sRet (cVar 1))
  zA5)))
def zCj (cl:Nat→CLL):Prop:=∀ n,cl (n+1) "settings"=runF 1 3 (zEx (cl n))
noncomputable def zFu (cl:CLL):CS :=
 (sSeq (sRet (cBin oEq (cBin oIx (cVar 1) (cBin oIx (cVar 0) (cCon (.int 2)))) (cBin oIx (cVar 0) (cCon (.int 3)))))
  zA5)
def zBs (cl:Nat→CLL):Prop:=∀ n,cl (n+1) "is_shut"=runF 2 2 (zFu (cl n))
noncomputable def zFE (cl:CLL):CT :=
 (cTru (cApp (cl "is_shut") (zA1 [(cVar 1),(cVar 2)])))
noncomputable def zFF (cl:CLL):C :=
 (cVar 0)
noncomputable def zFs (cl:CLL):CS :=
 (sSeq (sRet (cApp zAh (zA1 [(zBe (zKy (zA1 [(cBin oIx (cVar 0) (cCon (.int 2)))])) 2 [1] (.many 2) (zFE cl) (zFF cl))])))
  zA5)
def zG5 (cl:Nat→CLL):Prop:=∀ n,cl (n+1) "shut_at"=runF 2 2 (zFs (cl n))
noncomputable def zCn (cl:CLL):CS :=
 (sSeq (sIf (zAB (cBin oNe (cBin (oIn false) (cBin oIx (cVar 4) (cCon (.int 0))) (cVar 2)) (cBin (oIn false) (cBin oIx (cVar 4) (cCon (.int 1))) (cVar 2)))) (sSeq (sAsg (cCon (.bl true)) (gS (cVar 2) (cBin oIx (cVar 4) (cCon (.int 0)))))
  (sSeq (sAsg (cCon (.bl true)) (gS (cVar 2) (cBin oIx (cVar 4) (cCon (.int 1)))))
  (sSeq (sAsg (cCon (.bl true)) (gN 3))
  zA5))) zA5)
  zA5)
noncomputable def zCo (cl:CLL):CS :=
 (sSeq (sAsg (cCon (.bl false)) (gN 3))
  (sSeq (sFor (iSeq (cVar 1)) (gN 4) (zCn cl))
  zA5))
noncomputable def zCC (cl:CLL):CS :=
 (sSeq (sAsg (zSM (cVar 0) (cCon (.bl true))) (gN 2))
  (sSeq (sAsg (cCon (.bl true)) (gN 3))
  (sSeq (zDJ zLk (cTru (cVar 3)) (zCo cl))
  (sSeq (sRet (cVar 2))
  zA5))))
def zAC (cl:Nat→CLL):Prop:=∀ n,cl (n+1) "places_from"=runF 2 5 (zCC (cl n))
noncomputable def zJB (cl:CLL):CS :=
 (sSeq (sRet (cBin (oIn false) (cCon (.int 1)) (cApp (cl "places_from") (zA1 [(cCon (.int 0)),(cVar 0)]))))
  zA5)
def zFw (cl:Nat→CLL):Prop:=∀ n,cl (n+1) "joins"=runF 1 1 (zJB (cl n))
noncomputable def zCx (cl:CLL):CT :=
 (cTru (cApp (cl "is_shut") (zA1 [(cVar 0),(cVar 1)])))
noncomputable def zCy (cl:CLL):C :=
 (cVar 0)
noncomputable def zC6 (cl:CLL):CS :=
 (sSeq (sRet (zBe (iSeq (cBin oIx (cVar 0) (cCon (.int 2)))) 1 [1] .one (zCx cl) (zCy cl)))
  zA5)
def zAK (cl:Nat→CLL):Prop:=∀ n,cl (n+1) "shut_contacts"=runF 2 2 (zC6 (cl n))
noncomputable def zNw (cl:CLL):CS :=
 (sSeq (sRet (cApp (cl "joins") (zA1 [(cApp (cl "shut_contacts") (zA1 [(cVar 0),(cVar 1)]))])))
  zA5)
def zJF (cl:Nat→CLL):Prop:=∀ n,cl (n+1) "lets"=runF 2 2 (zNw (cl n))
noncomputable def zD0 (cl:CLL):C :=
 (cIf (cTru (cApp (cl "lets") (zA1 [(cVar 1),(cVar 0)]))) (cCon (.int 1)) (cCon (.int 0)))
noncomputable def zCD (cl:CLL):CS :=
 (sSeq (sRet (cApp zAh (zA1 [(zBe (iSeq (cApp (cl "settings") (zA1 [(cBin oIx (cVar 0) (cCon (.int 0)))]))) 1 [0] .one (fun _=>ret true) (zD0 cl))])))
  zA5)
def zD2 (cl:Nat→CLL):Prop:=∀ n,cl (n+1) "function_of"=runF 1 1 (zCD (cl n))
noncomputable def zCB (cl:CLL):C :=
 (cBin (oInt Builtin.bitAnd) (cVar 0) (cVar 1))
noncomputable def zEf (cl:CLL):CS :=
 (sSeq (sRet (cApp zAh (zA1 [(zBe (zI2 (zA1 [(cVar 0),(cVar 1)])) 2 [] (.many 2) (fun _=>ret true) (zCB cl))])))
  zA5)
def zDG (cl:Nat→CLL):Prop:=∀ n,cl (n+1) "where_both"=runF 2 2 (zEf (cl n))
noncomputable def zBS (cl:CLL):C :=
 (cBin (oInt Builtin.bitOr) (cVar 0) (cVar 1))
noncomputable def zD1 (cl:CLL):CS :=
 (sSeq (sRet (cApp zAh (zA1 [(zBe (zI2 (zA1 [(cVar 0),(cVar 1)])) 2 [] (.many 2) (fun _=>ret true) (zBS cl))])))
  zA5)
def zCS (cl:Nat→CLL):Prop:=∀ n,cl (n+1) "where_either"=runF 2 2 (zD1 (cl n))
noncomputable def zBa (cl:CLL):CS :=
 (sSeq (sIf (zAB (cBin (oIn false) (cBin oIx (cVar 0) (cCon (.int 2))) (cVar 1))) (sSeq (sRet (cBin oAdd (cSl oSl (cVar 0) zCM (zEY (cCon (.int 3)))) (cTup (zA1 [(cBin (oInt fun i j=>i - j) (cCon (.int 1)) (cBin oIx (cVar 0) (cCon (.int 3))))]))))
  zA5) zA5)
  (sSeq (sRet (cVar 0))
  zA5))
def zBr (cl:Nat→CLL):Prop:=∀ n,cl (n+1) "turned_contact"=runF 2 2 (zBa (cl n))
noncomputable def zGP (cl:CLL):C :=
 (cApp (cl "turned_contact") (zA1 [(cVar 0),(cVar 1)]))
noncomputable def zGL (cl:CLL):CS :=
 (sSeq (sRet (cTup (zA1 [(cBin oIx (cVar 0) (cCon (.int 0))),(cBin oIx (cVar 0) (cCon (.int 1))),(cApp zAh (zA1 [(zBe (iSeq (cBin oIx (cVar 0) (cCon (.int 2)))) 1 [1] .one (fun _=>ret true) (zGP cl))]))])))
  zA5)
def zHU (cl:Nat→CLL):Prop:=∀ n,cl (n+1) "turned"=runF 2 2 (zGL (cl n))
noncomputable def zC8 (cl:CLL):CS :=
 (sSeq (sRet (cTup (zA1 [(cBin oIx (cVar 0) (cCon (.int 0))),(cBin oIx (cVar 0) (cCon (.int 1))),(cBin oIx (cVar 1) (cBin oIx (cVar 0) (cCon (.int 2)))),(cBin oIx (cVar 0) (cCon (.int 3)))])))
  zA5)
def zBK (cl:Nat→CLL):Prop:=∀ n,cl (n+1) "named_contact"=runF 2 2 (zC8 (cl n))
noncomputable def zJf (cl:CLL):C :=
 (cApp (cl "named_contact") (zA1 [(cVar 0),(cVar 1)]))
noncomputable def zJA (cl:CLL):CS :=
 (sSeq (sRet (cTup (zA1 [(cBin oIx (cVar 0) (cCon (.int 0))),(cBin oIx (cVar 0) (cCon (.int 1))),(cApp zAh (zA1 [(zBe (iSeq (cBin oIx (cVar 0) (cCon (.int 2)))) 1 [1] .one (fun _=>ret true) (zJf cl))]))])))
  zA5)
def zJE (cl:Nat→CLL):Prop:=∀ n,cl (n+1) "named"=runF 2 2 (zJA (cl n))
noncomputable def zBP (cl:CLL):CS :=
 (sSeq (sAsg (cApp zAh (zA1 [(cApp zCL (zA1 [(cApp (cl "places_from") (zA1 [(cVar 4),(cVar 2)]))]))])) (gN 5))
  (sSeq (sIf (zAB (cBin oEq (cBin oIx (cVar 5) (cCon (.int 0))) (cVar 4))) (sSeq (zDX (zG1 "list" (zDz zC2) (cVar 3) (zA1 [(cVar 5)])))
  zA5) zA5)
  zA5))
noncomputable def zCN (cl:CLL):CS :=
 (sSeq (sAsg (cApp (cl "shut_contacts") (zA1 [(cVar 0),(cVar 1)])) (gN 2))
  (sSeq (sAsg (cLst (zA1 [])) (gN 3))
  (sSeq (sFor (zB4 (zA1 [(cBin oIx (cVar 0) (cCon (.int 1)))])) (gN 4) (zBP cl))
  (sSeq (sRet (cVar 3))
  zA5))))
def zGj (cl:Nat→CLL):Prop:=∀ n,cl (n+1) "pieces_at"=runF 2 6 (zCN (cl n))
noncomputable def zDq (cl:CLL):CS :=
 (sSeq (sRet (cBin oAdd (cBin (oInt fun i j=>i - j) (cApp fLen (zA1 [(cApp (cl "shut_at") (zA1 [(cVar 0),(cVar 1)]))])) (cBin oIx (cVar 0) (cCon (.int 1)))) (cApp fLen (zA1 [(cApp (cl "pieces_at") (zA1 [(cVar 0),(cVar 1)]))]))))
  zA5)
def zHW (cl:Nat→CLL):Prop:=∀ n,cl (n+1) "rings_at"=runF 2 2 (zDq (cl n))
noncomputable def zB1 (cl:CLL):CS :=
 (sSeq (sIf (cOrT (zG0 (cTru (cApp (cl "is_whole") (zA1 [(cVar 1)])))) (zG0 (zAB (zFq (oCmp fun i j=>decide (i≤j)) oLt (cCon (.int 0)) (cVar 1) (cBin oIx (cVar 0) (cCon (.int 1))))))) (sSeq sBad
  zA5) zA5)
  zA5)
def zCX (cl:Nat→CLL):Prop:=∀ n,cl (n+1) "refuse_no_place"=runF 2 2 (zB1 (cl n))
noncomputable def zCp (cl:CLL):CS :=
 (sSeq (sRet (cBin (oIn false) (cVar 2) (cApp (cl "places_from") (zA1 [(cVar 1),(cApp (cl "shut_contacts") (zA1 [(cVar 0),(cVar 3)]))]))))
  zA5)
def zEm (cl:Nat→CLL):Prop:=∀ n,cl (n+1) "in_one_piece"=runF 4 4 (zCp (cl n))
noncomputable def zDn (cl:CLL):C :=
 (cIf (cTru (cApp (cl "in_one_piece") (zA1 [(cVar 1),(cVar 2),(cVar 3),(cVar 0)]))) (cCon (.int 1)) (cCon (.int 0)))
noncomputable def zEh (cl:CLL):CS :=
 (sSeq (zDX (cApp (cl "refuse_no_place") (zA1 [(cVar 0),(cVar 1)])))
  (sSeq (zDX (cApp (cl "refuse_no_place") (zA1 [(cVar 0),(cVar 2)])))
  (sSeq (sRet (cApp zAh (zA1 [(zBe (iSeq (cApp (cl "settings") (zA1 [(cBin oIx (cVar 0) (cCon (.int 0)))]))) 1 [0,1,2] .one (fun _=>ret true) (zDn cl))])))
  zA5)))
def zIT (cl:Nat→CLL):Prop:=∀ n,cl (n+1) "between"=runF 3 3 (zEh (cl n))
noncomputable def zCd (cl:CLL):C :=
 (cTup (zA1 [(cVar 1),(cVar 0)]))
noncomputable def zCI (cl:CLL):CS :=
 (sSeq (zDX (zG1 "list" zCK (cVar 1) (zA1 [(zBe (zJn (zA1 [(cBin oAdd (cVar 2) (cCon (.int 1))),(cVar 0)])) 1 [2] .one (fun _=>ret true) (zCd cl))])))
  zA5)
noncomputable def zDr (cl:CLL):CS :=
 (sSeq (sAsg (cLst (zA1 [])) (gN 1))
  (sSeq (sFor (zB4 (zA1 [(cVar 0)])) (gN 2) (zCI cl))
  (sSeq (sRet (cVar 1))
  zA5)))
def zF1 (cl:Nat→CLL):Prop:=∀ n,cl (n+1) "pairs_of"=runF 1 3 (zDr (cl n))
noncomputable def zBb (cl:CLL):CT :=
 (cTru (cApp (zEF fun bs=>bs.all id) (zA1 [(cApp (cl "between") (zA1 [(cVar 1),(cBin oIx (cVar 0) (cCon (.int 0))),(cBin oIx (cVar 0) (cCon (.int 1)))]))])))
noncomputable def zCA (cl:CLL):C :=
 (cVar 0)
noncomputable def zBo (cl:CLL):CS :=
 (sSeq (sRet (zBe (iSeq (cApp (cl "pairs_of") (zA1 [(cBin oIx (cVar 0) (cCon (.int 1)))]))) 1 [0] .one (zBb cl) (zCA cl)))
  zA5)
def zDO (cl:Nat→CLL):Prop:=∀ n,cl (n+1) "always_joined"=runF 1 1 (zBo (cl n))
noncomputable def zBj (cl:CLL):CT :=
 (zG0 (cTru (cApp (zEF fun bs=>bs.any id) (zA1 [(cApp (cl "between") (zA1 [(cVar 1),(cBin oIx (cVar 0) (cCon (.int 0))),(cBin oIx (cVar 0) (cCon (.int 1)))]))]))))
noncomputable def zCJ (cl:CLL):C :=
 (cVar 0)
noncomputable def zBG (cl:CLL):CS :=
 (sSeq (sRet (zBe (iSeq (cApp (cl "pairs_of") (zA1 [(cBin oIx (cVar 0) (cCon (.int 1)))]))) 1 [0] .one (zBj cl) (zCJ cl)))
  zA5)
def zEk (cl:Nat→CLL):Prop:=∀ n,cl (n+1) "never_joined"=runF 1 1 (zBG (cl n))
noncomputable def zCP (cl:CLL):CS :=
 (sSeq (sRet (cBin oAdd (cBin oAdd (cSl oSl (cVar 0) zCM (zEY (cVar 1))) (cTup (zA1 [(cBin (oInt fun i j=>i - j) (cCon (.int 1)) (cBin oIx (cVar 0) (cVar 1)))]))) (cSl oSl (cVar 0) (zEY (cBin oAdd (cVar 1) (cCon (.int 1)))) zCM)))
  zA5)
def zEn (cl:Nat→CLL):Prop:=∀ n,cl (n+1) "exchanged"=runF 2 2 (zCP (cl n))
noncomputable def zBw (cl:CLL):CT :=
 (zAB (cBin oNe (cBin oIx (cVar 1) (cVar 0)) (cBin oIx (cVar 1) (cApp (cl "exchanged") (zA1 [(cVar 0),(cVar 2)])))))
noncomputable def zCm (cl:CLL):C :=
 (cVar 0)
noncomputable def zBx (cl:CLL):CS :=
 (sSeq (zDX (zG1 "list" (zDz zC2) (cVar 2) (zA1 [(cApp fLen (zA1 [(zBe (iSeq (cVar 1)) 1 [1,3] .one (zBw cl) (zCm cl))]))])))
  zA5)
noncomputable def zC5 (cl:CLL):CS :=
 (sSeq (sAsg (zFo (zA1 [(cApp (cl "settings") (zA1 [(cBin oIx (cVar 0) (cCon (.int 0)))])),(cApp (cl "function_of") (zA1 [(cVar 0)]))])) (gN 1))
  (sSeq (sAsg (cLst (zA1 [])) (gN 2))
  (sSeq (sFor (zB4 (zA1 [(cBin oIx (cVar 0) (cCon (.int 0)))])) (gN 3) (zBx cl))
  (sSeq (sRet (cApp zAh (zA1 [(cVar 2)])))
  zA5))))
def zEG (cl:Nat→CLL):Prop:=∀ n,cl (n+1) "turn_counts"=runF 1 4 (zC5 (cl n))
noncomputable def zIX (cl:CLL):CT :=
 (zAB (cBin (oCmp fun i j=>decide (j<i)) (cVar 1) (cCon (.int 0))))
noncomputable def zIY (cl:CLL):C :=
 (cVar 0)
noncomputable def zLb (cl:CLL):CS :=
 (sSeq (sRet (cApp zAh (zA1 [(zBe (zKy (zA1 [(cApp (cl "turn_counts") (zA1 [(cVar 0)]))])) 2 [] (.many 2) (zIX cl) (zIY cl))])))
  zA5)
def zRf (cl:Nat→CLL):Prop:=∀ n,cl (n+1) "used"=runF 1 1 (zLb (cl n))
noncomputable def zB5 (cl:CLL):CS :=
 (sSeq (sIf (cOrT (zG0 (cTru (cApp (cl "is_whole") (zA1 [(cVar 1)])))) (zG0 (zAB (zFq (oCmp fun i j=>decide (i≤j)) oLt (cCon (.int 0)) (cVar 1) (cApp fLen (zA1 [(cBin oIx (cVar 0) (cCon (.int 2)))])))))) (sSeq sBad
  zA5) zA5)
  zA5)
def zAW (cl:Nat→CLL):Prop:=∀ n,cl (n+1) "refuse_no_contact"=runF 2 2 (zB5 (cl n))
noncomputable def zSU (cl:CLL):CS :=
 (sSeq (zDX (cApp (cl "refuse_no_contact") (zA1 [(cVar 0),(cVar 1)])))
  (sSeq (sRet (cTup (zA1 [(cBin oIx (cVar 0) (cCon (.int 0))),(cBin oIx (cVar 0) (cCon (.int 1))),(cBin oAdd (cSl oSl (cBin oIx (cVar 0) (cCon (.int 2))) zCM (zEY (cVar 1))) (cSl oSl (cBin oIx (cVar 0) (cCon (.int 2))) (zEY (cBin oAdd (cVar 1) (cCon (.int 1)))) zCM))])))
  zA5))
def zRg (cl:Nat→CLL):Prop:=∀ n,cl (n+1) "cut"=runF 2 2 (zSU (cl n))
noncomputable def zAj (cl:CLL):CS :=
 (sSeq (sIf (zAB (cBin oNe (cBin oIx (cBin oIx (cVar 0) (cVar 1)) (cVar 2)) (cBin oIx (cBin oIx (cVar 0) (cVar 2)) (cVar 1)))) (sSeq (sRet (cCon (.bl false)))
  zA5) zA5)
  zA5)
noncomputable def zAA (cl:CLL):CS :=
 (sSeq (sFor (zB4 (zA1 [(cVar 1)])) (gN 2) (zAj cl))
  zA5)
noncomputable def zAv (cl:CLL):CS :=
 (sSeq (sFor (zB4 (zA1 [(cApp fLen (zA1 [(cVar 0)]))])) (gN 1) (zAA cl))
  (sSeq (sRet (cCon (.bl true)))
  zA5))
def zCk (cl:Nat→CLL):Prop:=∀ n,cl (n+1) "same_both_ways"=runF 1 3 (zAv (cl n))
noncomputable def zGR (cl:CLL):CT :=
 (zAB (cBin oEq (cSl oSl (cVar 0) zCM (zEY (cCon (.int 2)))) (cVar 1)))
noncomputable def zGS (cl:CLL):C :=
 (cBin oAdd (cTup (zA1 [(cCon (.int 0)),(cCon (.int 1))])) (cSl oSl (cVar 0) (zEY (cCon (.int 2))) zCM))
noncomputable def zHO (cl:CLL):CS :=
 (sSeq (sIf (zAB (cBin oEq (cVar 1) (cVar 2))) (sSeq (sRet (cBin oMul (cTup (zA1 [(cCon (.int 1))])) (cApp fLen (zA1 [(cApp (cl "settings") (zA1 [(cBin oIx (cVar 0) (cCon (.int 0)))]))]))))
  zA5) zA5)
  (sSeq (sAsg (cTup (zA1 [(cApp fMin (zA1 [(cVar 1),(cVar 2)])),(cApp fMax (zA1 [(cVar 1),(cVar 2)]))])) (gN 3))
  (sSeq (sAsg (zBe (iSeq (cBin oIx (cVar 0) (cCon (.int 2)))) 1 [3] .one (zGR cl) (zGS cl)) (gN 4))
  (sSeq (sRet (cApp (cl "function_of") (zA1 [(cTup (zA1 [(cBin oIx (cVar 0) (cCon (.int 0))),(cCon (.int 2)),(cApp zAh (zA1 [(cVar 4)]))]))])))
  zA5))))
def zHV (cl:Nat→CLL):Prop:=∀ n,cl (n+1) "tied"=runF 3 5 (zHO (cl n))
noncomputable def zDw (cl:CLL):C :=
 (cApp (cl "tied") (zA1 [(cVar 1),(cVar 2),(cVar 0)]))
noncomputable def zDo (cl:CLL):CS :=
 (sSeq (sRet (cApp zAh (zA1 [(zBe (zB4 (zA1 [(cBin oIx (cVar 0) (cCon (.int 1)))])) 1 [0,1] .one (fun _=>ret true) (zDw cl))])))
  zA5)
def zDH (cl:Nat→CLL):Prop:=∀ n,cl (n+1) "tied_row"=runF 2 2 (zDo (cl n))
noncomputable def zDx (cl:CLL):C :=
 (cApp (cl "tied_row") (zA1 [(cVar 1),(cVar 0)]))
noncomputable def zDp (cl:CLL):CS :=
 (sSeq (sRet (cApp zAh (zA1 [(zBe (zB4 (zA1 [(cBin oIx (cVar 0) (cCon (.int 1)))])) 1 [0] .one (fun _=>ret true) (zDx cl))])))
  zA5)
def zF0 (cl:Nat→CLL):Prop:=∀ n,cl (n+1) "table_of"=runF 1 1 (zDp (cl n))
noncomputable def zAD (cl:CLL):CS :=
 (sSeq (sAsg (cApp (cl "where_either") (zA1 [(cVar 2),(cApp (cl "where_both") (zA1 [(cVar 3),(cVar 4)]))])) (gN 2))
  zA5)
noncomputable def zAN (cl:CLL):CS :=
 (sSeq (sAsg (cBin oMul (cTup (zA1 [(cCon (.int 0))])) (cApp fLen (zA1 [(cBin oIx (cVar 0) (cCon (.int 0)))]))) (gN 2))
  (sSeq (sFor (zI2 (zA1 [(cVar 0),(cVar 1)])) (gT [(gN 3),(gN 4)]) (zAD cl))
  (sSeq (sRet (cVar 2))
  zA5)))
def zCu (cl:Nat→CLL):Prop:=∀ n,cl (n+1) "through_some_place"=runF 2 5 (zAN (cl n))
noncomputable def zBB (cl:CLL):C :=
 (cApp (cl "through_some_place") (zA1 [(cVar 1),(cVar 0)]))
noncomputable def zC7 (cl:CLL):CS :=
 (sSeq (sRet (cApp zAh (zA1 [(zBe (iSeq (cVar 1)) 1 [0] .one (fun _=>ret true) (zBB cl))])))
  zA5)
def zEH (cl:Nat→CLL):Prop:=∀ n,cl (n+1) "row_through"=runF 2 2 (zC7 (cl n))
noncomputable def zDm (cl:CLL):C :=
 (cApp (cl "row_through") (zA1 [(cVar 0),(cVar 1)]))
noncomputable def zEg (cl:CLL):CS :=
 (sSeq (sAsg (cApp zAh (zA1 [(zBe (iSeq (cVar 0)) 1 [1] .one (fun _=>ret true) (zDm cl))])) (gN 2))
  (sSeq (sIf (zG0 (cTru (cApp (cl "same_both_ways") (zA1 [(cVar 2)])))) (sSeq sBad
  zA5) zA5)
  (sSeq (sRet (cVar 2))
  zA5)))
def zIS (cl:Nat→CLL):Prop:=∀ n,cl (n+1) "come_to"=runF 2 3 (zEg (cl n))
noncomputable def zEa (cl:CLL):CS :=
 (sSeq (sAsg (cVar 2) (gN 1))
  (sSeq (sAsg (cApp (cl "come_to") (zA1 [(cVar 1),(cVar 1)])) (gN 2))
  zA5))
noncomputable def zFv (cl:CLL):CS :=
 (sSeq (sAsg (cVar 0) (gN 1))
  (sSeq (sAsg (cApp (cl "come_to") (zA1 [(cVar 1),(cVar 1)])) (gN 2))
  (sSeq (zDJ zLk (zAB (cBin oNe (cVar 2) (cVar 1))) (zEa cl))
  (sSeq (sRet (cVar 1))
  zA5))))
def zLg (cl:Nat→CLL):Prop:=∀ n,cl (n+1) "closed"=runF 1 3 (zFv (cl n))
noncomputable def zC9 (cl:CLL):CS :=
 (sSeq (sIf (zAB (cBin oLt (cVar 1) (cApp fLen (zA1 [(cVar 0)])))) (sSeq (sRet (cBin oIx (cVar 0) (cVar 1)))
  zA5) zA5)
  (sSeq (sRet (cCon (.int 0)))
  zA5))
def zCq (cl:Nat→CLL):Prop:=∀ n,cl (n+1) "_law_cell_at"=runF 2 2 (zC9 (cl n))
noncomputable def zCO (cl:CLL):CS :=
 (sSeq (sAsg (cApp (cl "_law_cell_at") (zA1 [(cVar 0),(cVar 1)])) (gN 2))
  (sSeq (sIf (zAB (cBin (oCmp fun i j=>decide (j≤i)) (cVar 2) (cBin oPow (cCon (.int 10)) (cCon (.int 18))))) (sSeq (sRet (cLst (zA1 [(cBin (oInt fun i j=>i - j) (cVar 2) (cBin oPow (cCon (.int 10)) (cCon (.int 18)))),(cCon (.bl true))])))
  zA5) zA5)
  (sSeq (sRet (cLst (zA1 [(cBin oMod (cVar 2) (cCon (.int 2147483647))),(cCon (.bl false))])))
  zA5)))
def zEl (cl:Nat→CLL):Prop:=∀ n,cl (n+1) "_law_state"=runF 2 3 (zCO (cl n))
noncomputable def zDs (cl:CLL):CS :=
 (sSeq (sIf (cTru (cBin oIx (cVar 0) (cCon (.int 1)))) (sSeq (sAsg (cBin oMod (cBin oIx (cVar 0) (cCon (.int 0))) (cVar 1)) (gN 2))
  (sSeq (sAsg (cBin oDiv (cBin oIx (cVar 0) (cCon (.int 0))) (cVar 1)) (gS (cVar 0) (cCon (.int 0))))
  (sSeq (sRet (cVar 2))
  zA5))) zA5)
  (sSeq (sAsg (cBin oMod (cBin oAdd (cBin oMul (cBin oIx (cVar 0) (cCon (.int 0))) (cCon (.int 48271))) (cCon (.int 29))) (cCon (.int 2147483647))) (gS (cVar 0) (cCon (.int 0))))
  (sSeq (sAsg (cBin oMod (cBin oAdd (cBin oAdd (cBin oMul (cBin oIx (cVar 0) (cCon (.int 0))) (cBin oIx (cVar 0) (cCon (.int 0)))) (cBin oMul (cCon (.int 39373)) (cBin oIx (cVar 0) (cCon (.int 0))))) (cCon (.int 7))) (cCon (.int 2147483629))) (gN 3))
  (sSeq (sAsg (cBin oMod (cBin oAdd (cBin oMul (cVar 3) (cVar 3)) (cBin oMul (cCon (.int 16807)) (cVar 3))) (cCon (.int 2147483587))) (gN 3))
  (sSeq (sRet (cBin oMod (cBin oDiv (cVar 3) (cCon (.int 8))) (cVar 1)))
  zA5)))))
def zBp (cl:Nat→CLL):Prop:=∀ n,cl (n+1) "_law_take"=runF 2 4 (zDs (cl n))
noncomputable def zDu (cl:CLL):CS :=
 (sSeq (sAsg (cBin oAdd (cBin oAdd (cLst (zA1 [(cCon (.int 0))])) (cApp zDL (zA1 [(cCon (.int 2)),(cVar 1)]))) (cLst (zA1 [(cCon (.int 1))]))) (gN 2))
  (sSeq (sAsg (cApp (cl "_law_take") (zA1 [(cVar 0),(cBin (oInt fun i j=>i - j) (cVar 1) (cCon (.int 1)))])) (gN 3))
  (sSeq (sAsg (cBin oAdd (cVar 3) (cCon (.int 1))) (gN 4))
  (sSeq (sIf (zAB (cBin oEq (cApp (cl "_law_take") (zA1 [(cVar 0),(cCon (.int 3))])) (cCon (.int 0)))) (sSeq (sAsg (cBin oAdd (cBin oAdd (cVar 3) (cCon (.int 1))) (cApp (cl "_law_take") (zA1 [(cVar 0),(cBin (oInt fun i j=>i - j) (cBin (oInt fun i j=>i - j) (cVar 1) (cCon (.int 1))) (cVar 3))]))) (gN 4))
  zA5) zA5)
  (sSeq (sRet (cTup (zA1 [(cApp fMin (zA1 [(cBin oIx (cVar 2) (cVar 3)),(cBin oIx (cVar 2) (cVar 4))])),(cApp fMax (zA1 [(cBin oIx (cVar 2) (cVar 3)),(cBin oIx (cVar 2) (cVar 4))]))])))
  zA5)))))
def zDI (cl:Nat→CLL):Prop:=∀ n,cl (n+1) "_law_ends"=runF 2 5 (zDu (cl n))
noncomputable def zDf (cl:CLL):CS :=
 (sSeq (zDX (zG1 "list" (zDz zDC) (cVar 11) (zA1 [(cApp (cl "_law_take") (zA1 [(cVar 0),(cBin oAdd (cApp fLen (zA1 [(cVar 11)])) (cCon (.int 1)))])),(cVar 12)])))
  zA5)
noncomputable def zEt (cl:CLL):CS :=
 (sSeq (zDX (zG1 "list" (zDz zC2) (cVar 6) (zA1 [(cBin oAdd (cApp (cl "_law_ends") (zA1 [(cVar 0),(cVar 5)])) (cTup (zA1 [(cApp (cl "_law_take") (zA1 [(cVar 0),(cVar 4)])),(cApp (cl "_law_take") (zA1 [(cVar 0),(cCon (.int 2))]))])))])))
  zA5)
noncomputable def zFN (cl:CLL):CS :=
 (sSeq (zDX (zG1 "list" (zDz zC2) (cVar 6) (zA1 [(cTup (zA1 [(cApp fMin (zA1 [(cVar 8),(cVar 9)])),(cApp fMax (zA1 [(cVar 8),(cVar 9)])),(cApp (cl "_law_take") (zA1 [(cVar 0),(cVar 4)])),(cApp (cl "_law_take") (zA1 [(cVar 0),(cCon (.int 2))]))]))])))
  zA5)
noncomputable def zDt (cl:CLL):CS :=
 (sSeq (sAsg (cBin oAdd (cCon (.int 1)) (cApp (cl "_law_take") (zA1 [(cVar 0),(cVar 1)]))) (gN 4))
  (sSeq (sAsg (cBin oAdd (cCon (.int 2)) (cApp (cl "_law_take") (zA1 [(cVar 0),(cBin (oInt fun i j=>i - j) (cVar 2) (cCon (.int 1)))]))) (gN 5))
  (sSeq (sAsg (cLst (zA1 [])) (gN 6))
  (sSeq (sAsg (cBin oAdd (cBin oAdd (cLst (zA1 [(cCon (.int 0))])) (cApp zDL (zA1 [(cCon (.int 2)),(cVar 5)]))) (cLst (zA1 [(cCon (.int 1))]))) (gN 7))
  (sSeq (sIf (zMl (zAB (cBin oEq (cApp (cl "_law_take") (zA1 [(cVar 0),(cCon (.int 2))])) (cCon (.int 0)))) (zAB (cBin (oCmp fun i j=>decide (i≤j)) (cBin (oInt fun i j=>i - j) (cVar 5) (cCon (.int 1))) (cVar 3)))) (sSeq (sFor (zI2 (zA1 [(cVar 7),(cSl oSl (cVar 7) (zEY (cCon (.int 1))) zCM)])) (gT [(gN 8),(gN 9)]) (zFN cl))
  zA5) zA5)
  (sSeq (sFor (zB4 (zA1 [(cApp (cl "_law_take") (zA1 [(cVar 0),(cBin oAdd (cBin (oInt fun i j=>i - j) (cVar 3) (cApp fLen (zA1 [(cVar 6)]))) (cCon (.int 1)))]))])) (gN 10) (zEt cl))
  (sSeq (sAsg (cLst (zA1 [])) (gN 11))
  (sSeq (sFor (iSeq (cVar 6)) (gN 12) (zDf cl))
  (sSeq (sRet (cTup (zA1 [(cVar 4),(cVar 5),(cApp zAh (zA1 [(cVar 11)]))])))
  zA5)))))))))
def zG6 (cl:Nat→CLL):Prop:=∀ n,cl (n+1) "_law_net"=runF 4 13 (zDt (cl n))
noncomputable def zAe (cl:CLL):CT :=
 (zAB (cBin (oIn false) (cVar 0) (cApp (cl "never_joined") (zA1 [(cVar 1)]))))
noncomputable def zAf (cl:CLL):C :=
 (cVar 0)
noncomputable def zAx (cl:CLL):CT :=
 (zMl (zAB (cBin (oIn false) (cVar 1) (cVar 0))) (zAB (cBin (oIn false) (cVar 2) (cVar 0))))
noncomputable def zAz (cl:CLL):C :=
 (cVar 0)
noncomputable def zAy (cl:CLL):CS :=
 (sSeq (zDX (zG1 "list" zCK (cVar 9) (zA1 [(cVar 10)])))
  zA5)
noncomputable def zAc (cl:CLL):CS :=
 (sSeq (sAsg (cApp (cl "pieces_at") (zA1 [(cVar 1),(cVar 7)])) (gN 8))
  (sSeq (sAsg (cLst (zA1 [])) (gN 9))
  (sSeq (sFor (iSeq (cVar 8)) (gN 10) (zAy cl))
  (sSeq (sIf (zAB (cBin oNe (cApp zCL (zA1 [(cVar 9)])) (cApp zDL (zA1 [(cBin oIx (cVar 1) (cCon (.int 1)))])))) (sSeq (sRet (cCon (.bl false)))
  zA5) zA5)
  (sSeq (sIf (zAB (cBin oNe (cVar 6) (cApp fInt (zA1 [(cBin oNe (zBe (iSeq (cVar 8)) 1 [3,4] .one (zAx cl) (zAz cl)) (cLst (zA1 [])))])))) (sSeq (sRet (cCon (.bl false)))
  zA5) zA5)
  zA5)))))
noncomputable def zA8 (cl:CLL):C :=
 (cApp (cl "_law_take") (zA1 [(cVar 1),(cBin oIx (cVar 2) (cCon (.int 1)))]))
noncomputable def zAd (cl:CLL):CS :=
 (sSeq (sAsg (cApp (cl "closed") (zA1 [(cApp (cl "table_of") (zA1 [(cVar 1)]))])) (gN 2))
  (sSeq (sAsg (zBe (zB4 (zA1 [(cCon (.int 2))])) 1 [0,1] .one (fun _=>ret true) (zA8 cl)) (gT [(gN 3),(gN 4)]))
  (sSeq (sAsg (cApp (cl "between") (zA1 [(cVar 1),(cVar 3),(cVar 4)])) (gN 5))
  (sSeq (sIf (cOrT (zAB (cBin oNe (cApp (cl "between") (zA1 [(cVar 1),(cCon (.int 0)),(cCon (.int 1))])) (cApp (cl "function_of") (zA1 [(cVar 1)])))) (cOrT (zAB (cBin oNe (cVar 5) (cBin oIx (cBin oIx (cVar 2) (cVar 3)) (cVar 4)))) (zAB (cBin oNe (cVar 5) (cApp (cl "between") (zA1 [(cVar 1),(cVar 4),(cVar 3)])))))) (sSeq (sRet (cCon (.bl false)))
  zA5) zA5)
  (sSeq (sFor (zI2 (zA1 [(cVar 5),(cApp (cl "settings") (zA1 [(cBin oIx (cVar 1) (cCon (.int 0)))]))])) (gT [(gN 6),(gN 7)]) (zAc cl))
  (sSeq (sIf (zAB (cBin oNe (zBe (iSeq (cApp (cl "always_joined") (zA1 [(cVar 1)]))) 1 [1] .one (zAe cl) (zAf cl)) (cLst (zA1 [])))) (sSeq (sRet (cCon (.bl false)))
  zA5) zA5)
  (sSeq (sAsg (cTup (zA1 [(cApp fMin (zA1 [(cVar 3),(cVar 4)])),(cApp fMax (zA1 [(cVar 3),(cVar 4)]))])) (gN 11))
  (sSeq (sIf (zAB (cBin oEq (cVar 3) (cVar 4))) (sSeq (sRet (cCon (.bl true)))
  zA5) zA5)
  (sSeq (sRet (zOt (cBin oEq (cBin (oIn false) (cVar 11) (cApp (cl "always_joined") (zA1 [(cVar 1)]))) (cBin (oIn true) (cCon (.int 0)) (cVar 5))) (cBin oEq (cBin (oIn false) (cVar 11) (cApp (cl "never_joined") (zA1 [(cVar 1)]))) (cBin (oIn true) (cCon (.int 1)) (cVar 5)))))
  zA5)))))))))
def zCb (cl:Nat→CLL):Prop:=∀ n,cl (n+1) "_law_places_right"=runF 2 12 (zAd (cl n))
noncomputable def zB8 (cl:CLL):CS :=
 (sSeq (sAsg (cBin (oInt fun i j=>i - j) (cApp fLen (zA1 [(cApp (cl "pieces_at") (zA1 [(cVar 2),(cVar 3)]))])) (cApp fLen (zA1 [(cApp (cl "pieces_at") (zA1 [(cVar 0),(cVar 3)]))]))) (gN 4))
  (sSeq (sAsg (cApp fInt (zA1 [(cBin (oIn false) (cVar 1) (cApp (cl "shut_at") (zA1 [(cVar 0),(cVar 3)])))])) (gN 5))
  (sSeq (sIf (cOrT (zG0 (zAB (zFq (oCmp fun i j=>decide (i≤j)) (oCmp fun i j=>decide (i≤j)) (cCon (.int 0)) (cVar 4) (cVar 5)))) (zAB (cBin oNe (cBin (oInt fun i j=>i - j) (cApp (cl "rings_at") (zA1 [(cVar 0),(cVar 3)])) (cApp (cl "rings_at") (zA1 [(cVar 2),(cVar 3)]))) (cBin (oInt fun i j=>i - j) (cVar 5) (cVar 4))))) (sSeq (sRet (cCon (.bl false)))
  zA5) zA5)
  (sSeq (sIf (zAB (cBin oLt (cApp (cl "rings_at") (zA1 [(cVar 2),(cVar 3)])) (cCon (.int 0)))) (sSeq (sRet (cCon (.bl false)))
  zA5) zA5)
  zA5))))
noncomputable def zBn (cl:CLL):CS :=
 (sSeq (sAsg (cApp (cl "cut") (zA1 [(cVar 0),(cVar 1)])) (gN 2))
  (sSeq (sFor (iSeq (cApp (cl "settings") (zA1 [(cBin oIx (cVar 0) (cCon (.int 0)))]))) (gN 3) (zB8 cl))
  (sSeq (sRet (cCon (.bl true)))
  zA5)))
def zDN (cl:Nat→CLL):Prop:=∀ n,cl (n+1) "_law_cut_right"=runF 2 6 (zBn (cl n))
noncomputable def zAG (cl:CLL):CT :=
 (zAB (cBin oEq (cApp (cl "_law_take") (zA1 [(cVar 1),(cCon (.int 2))])) (cCon (.int 0))))
noncomputable def zAo (cl:CLL):C :=
 (cVar 0)
noncomputable def zAJ (cl:CLL):C :=
 (cBin oIx (cVar 1) (cBin oIx (cVar 2) (cVar 0)))
noncomputable def zAm (cl:CLL):CS :=
 (sSeq (zDX (zG1 "list" (zDz zDC) (cVar 4) (zA1 [(cApp (cl "_law_take") (zA1 [(cVar 0),(cBin oAdd (cVar 5) (cCon (.int 1)))])),(cVar 5)])))
  zA5)
noncomputable def zAl (cl:CLL):CT :=
 (zAB (cBin (oIn true) (cVar 0) (cVar 1)))
noncomputable def zAn (cl:CLL):C :=
 (cVar 0)
noncomputable def zAI (cl:CLL):C :=
 (cBin oIx (cVar 0) (cCon (.int 2)))
noncomputable def zAF (cl:CLL):CT :=
 (zAB (cBin (oCmp fun i j=>decide (j<i)) (cBin oIx (cVar 1) (cVar 0)) (cCon (.int 0))))
noncomputable def zAH (cl:CLL):C :=
 (cVar 0)
noncomputable def zAk (cl:CLL):CT :=
 (zAB (cBin oNe (cBin oMod (cVar 0) (cCon (.int 2))) (cCon (.int 0))))
noncomputable def zAU (cl:CLL):C :=
 (cVar 0)
noncomputable def zAO (cl:CLL):CS :=
 (sSeq (sAsg (cApp (cl "turn_counts") (zA1 [(cVar 1)])) (gN 2))
  (sSeq (sIf (cOrT (zAB (cBin oNe (zBe (iSeq (cVar 2)) 1 [] .one (zAk cl) (zAU cl)) (cLst (zA1 [])))) (zAB (cBin oNe (cApp (cl "used") (zA1 [(cVar 1)])) (cApp zAh (zA1 [(zBe (zB4 (zA1 [(cBin oIx (cVar 1) (cCon (.int 0)))])) 1 [2] .one (zAF cl) (zAH cl))]))))) (sSeq (sRet (cCon (.bl false)))
  zA5) zA5)
  (sSeq (sAsg (zBe (iSeq (cBin oIx (cVar 1) (cCon (.int 2)))) 1 [] .one (fun _=>ret true) (zAI cl)) (gN 3))
  (sSeq (sIf (zAB (cBin oNe (zBe (iSeq (cApp (cl "used") (zA1 [(cVar 1)]))) 1 [3] .one (zAl cl) (zAn cl)) (cLst (zA1 [])))) (sSeq (sRet (cCon (.bl false)))
  zA5) zA5)
  (sSeq (sAsg (cLst (zA1 [])) (gN 4))
  (sSeq (sFor (zB4 (zA1 [(cBin oIx (cVar 1) (cCon (.int 0)))])) (gN 5) (zAm cl))
  (sSeq (sAsg (cApp (cl "turn_counts") (zA1 [(cApp (cl "named") (zA1 [(cVar 1),(cApp zAh (zA1 [(cVar 4)]))]))])) (gN 6))
  (sSeq (sIf (zAB (cBin oNe (zBe (zB4 (zA1 [(cBin oIx (cVar 1) (cCon (.int 0)))])) 1 [6,4] .one (fun _=>ret true) (zAJ cl)) (cApp zQx (zA1 [(cVar 2)])))) (sSeq (sRet (cCon (.bl false)))
  zA5) zA5)
  (sSeq (sAsg (cApp zAh (zA1 [(zBe (zB4 (zA1 [(cBin oIx (cVar 1) (cCon (.int 0)))])) 1 [0] .one (zAG cl) (zAo cl))])) (gN 7))
  (sSeq (sRet (cBin oEq (cApp (cl "turn_counts") (zA1 [(cApp (cl "turned") (zA1 [(cVar 1),(cVar 7)]))])) (cVar 2)))
  zA5))))))))))
def zCv (cl:Nat→CLL):Prop:=∀ n,cl (n+1) "_law_switches_right"=runF 2 8 (zAO (cl n))
noncomputable def zCe (cl:CLL):CS :=
 (sSeq (sAsg (cApp (cl "_law_state") (zA1 [(cVar 0),(cVar 1)])) (gN 2))
  (sSeq (sAsg (cApp (cl "_law_net") (zA1 [(cVar 2),(cCon (.int 4)),(cCon (.int 7)),(cBin oIx (cLst (zA1 [(cCon (.int 5)),(cCon (.int 8)),(cCon (.int 12))])) (cApp (cl "_law_take") (zA1 [(cVar 2),(cCon (.int 3))])))])) (gN 3))
  (sSeq (sIf (cOrT (zG0 (cTru (cApp (cl "_law_places_right") (zA1 [(cVar 2),(cVar 3)])))) (zG0 (cTru (cApp (cl "_law_switches_right") (zA1 [(cVar 2),(cVar 3)]))))) (sSeq (sRet (cCon (.bl false)))
  zA5) zA5)
  (sSeq (sIf (zMl (zAB (cBin oNe (cBin oIx (cVar 3) (cCon (.int 2))) (cTup (zA1 [])))) (zG0 (cTru (cApp (cl "_law_cut_right") (zA1 [(cVar 3),(cApp (cl "_law_take") (zA1 [(cVar 2),(cApp fLen (zA1 [(cBin oIx (cVar 3) (cCon (.int 2)))]))]))]))))) (sSeq (sRet (cCon (.bl false)))
  zA5) zA5)
  zA5))))
noncomputable def zFt (cl:CLL):CS :=
 (sSeq (sFor (zB4 (zA1 [(cApp fMax (zA1 [(cCon (.int 1)),(cApp fMin (zA1 [(cApp fLen (zA1 [(cVar 0)])),(cCon (.int 6))]))]))])) (gN 1) (zCe cl))
  (sSeq (sRet (cCon (.bl true)))
  zA5))
def zIR (cl:Nat→CLL):Prop:=∀ n,cl (n+1) "law"=runF 1 4 (zFt (cl n))
variable {cl:Nat→CLL}
theorem zQW (h:zCq cl) (n:Nat) (ns:List Int) (k:Int) (hk:0≤k) (S:zA0):∃ c,cl (n+1) "_law_cell_at" [.rol (ns.map D.int),.int k] S=.ok (.int c) S:=by
 by_cases hl:k<ns.length
 ·refine ⟨ns[k.toNat]'(by omega),?_⟩
  have e:atI (ns.map D.int) k=some (.int (ns[k.toNat]'(by omega))):=by
   have q:=zCQ (xs:=ns.map D.int) (j:=k.toNat) (v:=.int (ns[k.toNat]'(by omega))) (by rw [qA6,qA0 (by omega)]; rfl)
   rw [show ((k.toNat:Nat):Int)=k by omega] at q
   exact q
  rw [h]
  refine zAa rfl ?_
  simp [zC9,zAu,hl,e]
 ·refine ⟨0,?_⟩
  rw [h]
  refine zAa rfl ?_
  simp [zC9,zAu,hl]
def StOk (S:zA0) (i:Nat):Prop:=∃ s b,zA6 S i=some [.int s,.bl b]∧(b=false→0≤s∧s<2147483647)
theorem StOk.lt {S:zA0}{i:Nat} (h:StOk S i):i<S.length:=by
 obtain ⟨s,b,e,_⟩:=h
 exact zEs e
theorem StOk.ex {S S':zA0}{i:Nat} (h:StOk S i) (e:Ex S S'):StOk S' i:=by
 obtain ⟨s,b,q,r⟩:=h
 exact ⟨s,b,e.lst q (fun z=>z),r⟩
theorem zNI (h:zEl cl) (hc:zCq cl) (n:Nat) (ns:List Int) (k:Int) (hk:0≤k) (S:zA0):∃ S1,cl (n+2) "_law_state" [.rol (ns.map D.int),.int k] S=.ok (.lst S.length) S1∧Ex S S1∧StOk S1 S.length:=by
 obtain ⟨c,ec⟩:=zQW hc n ns k hk S
 rw [show n+2=(n+1)+1 from rfl,h]
 by_cases hb:(1000000000000000000:Int)≤c
 ·refine ⟨S++[.lst [.int (c - 1000000000000000000),.bl true]],zAa rfl ?_,zA7 _ _,_,_,zA3 _ _,fun z=>by cases z⟩
  simp [zCO,zAu,ec,hb]
 ·refine ⟨S++[.lst [.int (c % 2147483647),.bl false]],zAa rfl ?_,zA7 _ _,_,_,zA3 _ _,fun _=>⟨qK2 _ (by decide),qI4 _ (by decide)⟩⟩
  simp [zCO,zAu,ec,hb]
theorem zH7 {i j:Int} (h1:-18446744073709551616<j) (h2:j<18446744073709551616):zH8 i j=true:=by
 unfold zH8; simp [h1,h2]
@[simp] theorem zYU:ixN 2 0=some 0:=rfl
inductive zaX (c:CLL) (S:zA0) (i:Nat) (m:Int):Prop
 | mk (r:Int) (S1:zA0) (e:c "_law_take" [.lst i,.int m] S=.ok (.int r) S1) (a:0≤r) (b:r<m) (k:Kp (·=i) S S1) (l:S1.length=S.length) (st:StOk S1 i)
theorem zAE (h:zBp cl) (n:Nat) {S:zA0}{i:Nat} (hS:StOk S i) {m:Int} (m0:0<m) (m1:m<1073741824):zaX (cl (n+1)) S i m:=by
 obtain ⟨s,b,hs,hb⟩:=hS
 have e0:=zFJ hs
 cases b with
 | true =>
  refine ⟨s % m,S.set i (.lst [.int (s / m),.bl true]),?_,qK2 _ (by omega),qI4 _ m0,zHe _ _,by simp,⟨_,_,zC1 hs,fun z=>by cases z⟩⟩
  rw [h]
  refine zAa rfl ?_
  simp [zDs,zAu,e0,m0,m1,zMV hs]
 | false =>
  obtain ⟨s0,s1⟩:=hb rfl
  generalize hz:(s*48271+29) % 2147483647=z
  have z0:0≤z:=by rw [← hz]; exact qK2 _ (by decide)
  have z1:z<2147483647:=by rw [← hz]; exact qI4 _ (by decide)
  generalize hy:(z*z+39373*z+7) % 2147483629=y
  have y0:0≤y:=by rw [← hy]; exact qK2 _ (by decide)
  have y1:y<2147483629:=by rw [← hy]; exact qI4 _ (by decide)
  generalize hx:(y*y+16807*y) % 2147483587=x
  refine ⟨x / 8 % m,S.set i (.lst [.int z,.bl false]),?_,qK2 _ (by omega),qI4 _ m0,zHe _ _,by simp,⟨_,_,zC1 hs,fun _=>⟨z0,z1⟩⟩⟩
  rw [h]
  refine zAa rfl ?_
  have e1:=zFJ (zC1 (ys:=[.int z,.bl false]) hs)
  have k1:zH8 s 48271=true:=zH7 (by decide) (by decide)
  have k2:zH8 z z=true:=zH7 (by omega) (by omega)
  have k3:zH8 39373 z=true:=zH7 (by omega) (by omega)
  have k4:zH8 y y=true:=zH7 (by omega) (by omega)
  have k5:zH8 16807 y=true:=zH7 (by omega) (by omega)
  simp [zDs,zAu,e0,zMV hs,k1,hz,e1,k2,k3,hy,k4,k5,hx,m0]
structure Ct where
 a:Int
 b:Int
 k:Int
 o:Int
 deriving DecidableEq
noncomputable def Ct.d (c:Ct):D:=.tup [.int c.a,.int c.b,.int c.k,.int c.o]
def Ct.ok (sw pl:Int) (c:Ct):Prop:=0≤c.a∧c.a<c.b∧c.b<pl∧0≤c.k∧c.k<sw∧0≤c.o∧c.o<2
structure Net where
 sw:Int
 pl:Int
 cs:List Ct
noncomputable def Net.d (n:Net):D:=.tup [.int n.sw,.int n.pl,.tup (n.cs.map Ct.d)]
structure Net.ok (ms mp mc:Int) (n:Net):Prop where
 s1:1≤n.sw
 s2:n.sw≤ms
 p1:2≤n.pl
 p2:n.pl≤mp
 c1:(n.cs.length:Int)≤mc
 c2:∀ c∈n.cs,c.ok n.sw n.pl
theorem zJc {S:zA0}{n m:Nat}{xs ys:List D} (h1:zA6 S n=some xs) (h2:zA6 S m=some ys) (h:xs.length+ys.length≤lim):oAdd (.lst n) (.lst m) S=.ok (.lst S.length) (S++[.lst (xs++ys)]):=by
 show (match S[n]?,S[m]? with | some (O.lst xs),some (O.lst ys)=>(if xs.length+ys.length≤lim then R.ok (D.lst S.length) (S++[O.lst (xs++ys)]) else .bad) | _,_=>.bad)=_
 rw [zAZ h1,zAZ h2]
 dsimp only
 rw [if_pos h]
noncomputable def rowL (n:Int):List Int:=[0]++((List.range (n - 2).toNat).map fun (k:Nat)=>(2:Int)+(k:Nat))++[1]
noncomputable def rowJ (n i:Int):Int:=if i=0 then 0 else if i=n - 1 then 1 else i+1
theorem zJ8 {n:Int} (h2:2≤n):(rowL n).length=n.toNat:=by unfold rowL; simp; omega
theorem zML {n:Int}{i:Nat} (h2:2≤n) (hi:(i:Int)<n):(rowL n)[i]?=some (rowJ n i):=by
 unfold rowL rowJ
 by_cases h0:i=0
 ·subst h0; simp
 ·rw [if_neg (by omega)]
  by_cases hl:(i:Int)=n - 1
  ·rw [if_pos hl,qB6 (by simp; omega)]
   have:i - ([0]++((List.range (n - 2).toNat).map fun (k:Nat)=>(2:Int)+(k:Nat))).length=0:=by simp; omega
   rw [this]; rfl
  ·rw [if_neg hl,qC1 (by simp; omega),qB6 (by simp; omega)]
   simp only [qD0,qM0,qA6]
   rw [qC8 (by omega)]
   simp
   omega
theorem zPq {n i:Int} (h2:2≤n) (h0:0≤i) (hi:i<n):atI ((rowL n).map D.int) i=some (.int (rowJ n i)):=by
 have q:=zCQ (xs:=(rowL n).map D.int) (j:=i.toNat) (v:=.int (rowJ n i.toNat)) (by rw [qA6,zML h2 (by omega)]; rfl)
 rw [show ((i.toNat:Nat):Int)=i by omega] at q
 exact q
theorem zJ9 {n i:Int} (h2:2≤n) (h0:0≤i) (hi:i<n):0≤rowJ n i∧rowJ n i<n:=by
 unfold rowJ; split <;> (try split) <;> omega
theorem zPr {n i j:Int} (h2:2≤n) (h0:0≤i) (hij:i<j) (hj:j<n):rowJ n i≠rowJ n j:=by
 unfold rowJ; split <;> split <;> (try split) <;> (try split) <;> omega
theorem mima {x y n:Int} (hx:0≤x∧x<n) (hy:0≤y∧y<n) (h:x≠y):0≤(if y<x then y else x)∧(if y<x then y else x)<(if y>x then y else x)∧(if y>x then y else x)<n:=by
 split <;> split <;> omega
theorem zBL (lo:Int) (n:Nat):(upD lo n).length=n:=by unfold upD; simp
theorem zB0:lim=1048576:=rfl
theorem zT3 {ρ:Env1}{j:Nat}{n:Int} (hj:ρ[j]?=some (some (.int n))) (h2:2≤n) (h7:n≤7) (S:zA0):∃ k S1,cBin oAdd (cBin oAdd (cLst (zA1 [(cCon (.int 0))])) (cApp zDL (zA1 [(cCon (.int 2)),(cVar j)]))) (cLst (zA1 [(cCon (.int 1))])) ρ S=.ok (.lst k) S1∧Ex S S1∧S.length≤k∧zA6 S1 k=some ((rowL n).map D.int):=by
 have e1:zDL [.int 2,.int n] (S++[O.lst [D.int 0]])=.ok (.lst (S++[O.lst [D.int 0]]).length) (S++[O.lst [D.int 0]]++[.lst (upD 2 (n - 2).toNat)]):=by
  unfold zDL
  dsimp only
  rw [if_pos (by omega)]
 generalize hA:S++[O.lst [D.int 0]]++[O.lst (upD 2 (n - 2).toNat)]=A at e1
 have a1:zA6 A S.length=some [.int 0]:=by rw [← hA]; exact zCs (zA3 _ _)
 have a2:zA6 A (S++[O.lst [D.int 0]]).length=some (upD 2 (n - 2).toNat):=by rw [← hA]; exact zA3 _ _
 have e2:=zJc a1 a2 (by rw [zBL,zB0]; simp; omega)
 generalize hB:A++[O.lst ([D.int 0]++upD 2 (n - 2).toNat)]=B at e2
 have b1:zA6 (B++[O.lst [D.int 1]]) A.length=some ([D.int 0]++upD 2 (n - 2).toNat):=by rw [← hB]; exact zCs (zA3 _ _)
 have e3:=zJc b1 (zA3 B [D.int 1]) (by rw [qC4,zBL,zB0]; simp; omega)
 refine ⟨(B++[O.lst [D.int 1]]).length,(B++[O.lst [D.int 1]])++[O.lst ([D.int 0]++upD 2 (n - 2).toNat++[D.int 1])],?_,?_,?_,?_⟩
 ·simp only [zVt,zVq,zOs,zR7,zVs,zAY,zVv,zVo,hj,e1,e2,e3]
 ·have:Ex S A:=by rw [← hA]; exact (zA7 _ _).trans (zA7 _ _)
  have:Ex S B:=by rw [← hB]; exact this.trans (zA7 _ _)
  exact (this.trans (zA7 _ _)).trans (zA7 _ _)
 ·rw [qC4,← hB,qC4,← hA]; simp; omega
 ·rw [zA3]
  congr 1
  unfold rowL upD
  simp
inductive zb4 (c:CLL) (S:zA0) (i:Nat) (pl:Int):Prop
 | mk (x y:Int) (S1:zA0) (e:c "_law_ends" [.lst i,.int pl] S=.ok (.tup [.int x,.int y]) S1) (h0:0≤x) (h1:x<y) (h2:y<pl) (k:Kp (·=i) S S1) (st:StOk S1 i)
theorem zQC (h:zDI cl) (ht:zBp cl) (n:Nat) {S:zA0}{i:Nat} (hS:StOk S i) {pl:Int} (p2:2≤pl) (p7:pl≤7):zb4 (cl (n+2)) S i pl:=by
 obtain ⟨k,S1,e1,x1,hk,l1⟩:=zT3 (ρ:=[some (.lst i),some (.int pl),none,none,none]) (j:=1) rfl p2 p7 S
 have st1:=hS.ex x1
 have ki:k≠i:=by have:=hS.lt; omega
 obtain ⟨one,S2,e2,o0,o1,k2,n2,st2⟩:=zAE ht n st1 (m:=pl - 1) (by omega) (by omega)
 obtain ⟨c3,S3,e3,c0,c1,k3,n3,st3⟩:=zAE ht n st2 (m:=3) (by omega) (by omega)
 have l3:zA6 S3 k=some ((rowL pl).map D.int):=k3.lst (k2.lst l1 ki) ki
 have fin:∀ (other:Int) (S4:zA0),one<other→other<pl→zA6 S4 k=some ((rowL pl).map D.int)→∀ x y,x=(if rowJ pl other<rowJ pl one then rowJ pl other else rowJ pl one)→y=(if rowJ pl other>rowJ pl one then rowJ pl other else rowJ pl one) →
   (oIx (.lst k) (.int one) S4=.ok (.int (rowJ pl one)) S4∧oIx (.lst k) (.int other) S4=.ok (.int (rowJ pl other)) S4)∧0≤x∧x<y∧y<pl:=by
  intro other S4 h1 h2 l4 x y ex ey
  obtain ⟨m1,m2,m3⟩:=mima (zJ9 p2 (i:=one) (by omega) (by omega)) (zJ9 p2 (i:=other) (by omega) (by omega)) (zPr p2 (by omega) h1 h2)
  subst ex ey
  exact ⟨⟨by rw [zFJ l4,zPq p2 (by omega) (by omega)],by rw [zFJ l4,zPq p2 (by omega) (by omega)]⟩,m1,m2,m3⟩
 by_cases hc:c3=0
 ·obtain ⟨r,S4,e4,r0,r1,k4,n4,st4⟩:=zAE ht n st3 (m:=pl - 1 - one) (by omega) (by omega)
  obtain ⟨⟨f1,f2⟩,f3,f4,f5⟩:=fin (one+1+r) S4 (by omega) (by omega) (k4.lst l3 ki) _ _ rfl rfl
  refine ⟨_,_,S4,?_,f3,f4,f5,(x1.kp.trans k2).trans (k3.trans k4),st4⟩
  rw [show n+2=(n+1)+1 from rfl,h]
  refine zAa rfl ?_
  simp [zDu,zAu,↓e1,e2,e3,hc,e4,f1,f2]
 ·obtain ⟨⟨f1,f2⟩,f3,f4,f5⟩:=fin (one+1) S3 (by omega) (by omega) l3 _ _ rfl rfl
  refine ⟨_,_,S3,?_,f3,f4,f5,(x1.kp.trans k2).trans k3,st3⟩
  rw [show n+2=(n+1)+1 from rfl,h]
  refine zAa rfl ?_
  simp [zDu,zAu,↓e1,e2,e3,hc,f1,f2]
theorem _root_.L2.Kp.setNew {P:Nat→Prop}{S0 S:zA0}{l:Nat}{o:O} (h:Kp P S0 S) (hl:S0.length≤l):Kp P S0 (S.set l o) :=
 ⟨by rw [qI7]; exact h.le,fun j hj n=>by rw [qD7 (by omega)]; exact h.eq j hj n⟩
theorem StOk.setO {S:zA0}{i l:Nat}{o:O} (h:StOk S i) (hl:l≠i):StOk (S.set l o) i:=by
 obtain ⟨s,b,q,r⟩:=h
 exact ⟨s,b,zFd (by rw [qD7 hl]; exact zAZ q),r⟩
theorem zEr {S:zA0}{i l:Nat}{o:O}{xs:List D} (h:zA6 S i=some xs) (hl:l≠i):zA6 (S.set l o) i=some xs:=zFd (by rw [qD7 hl]; exact zAZ h)
@[simp] theorem zEI {lo:Int}{n i:Nat}{d:D}:(upD lo n)[i]?=some d↔i<n∧d=.int (lo+i):=by
 unfold upD
 rw [qA6]
 by_cases h:i<n
 ·rw [qC8 h]; simp [h,eq_comm]
 ·rw [qF6 (by simpa using h)]; simp [h]
structure Rows (S0 S:zA0) (i l:Nat) (sw pl:Int) (cs:List Ct):Prop where
 at':zA6 S l=some (cs.map Ct.d)
 ok:∀ c∈cs,c.ok sw pl
 st:StOk S i
 kp:Kp (·=i) S0 S
 ge:S0.length≤l
 ne:l≠i
theorem Rows.put {S0 S S1:zA0}{i l:Nat}{sw pl:Int}{cs ds:List Ct} (h:Rows S0 S i l sw pl cs) (k:Kp (·=i) S S1) (st:StOk S1 i) (hd:∀ c∈ds,c.ok sw pl):Rows S0 (S1.set l (.lst (ds.map Ct.d))) i l sw pl ds :=
 ⟨zC1 (k.lst h.at' h.ne),hd,st.setO h.ne,(h.kp.trans k).setNew h.ge,h.ge,h.ne⟩
theorem Rows.go {S0 S S1:zA0}{i l:Nat}{sw pl:Int}{cs:List Ct} (h:Rows S0 S i l sw pl cs) (k:Kp (·=i) S S1) (st:StOk S1 i):Rows S0 S1 i l sw pl cs:=⟨k.lst h.at' h.ne,h.ok,st,h.kp.trans k,h.ge,h.ne⟩
noncomputable def nE (i:Nat) (ms mp mc sw pl:Int) (l:Nat) (a b c d e f:Option D):Env1:=[some (.lst i),some (.int ms),some (.int mp),some (.int mc),some (.int sw),some (.int pl),some (.lst l),a,b,c,d,e,f]
inductive NetP (S:zA0) (i:Nat) (ms mp mc:Int) (N:Net) (S1:zA0):Prop
 | mk (ok:N.ok ms mp mc) (k:Kp (·=i) S S1) (st:StOk S1 i)
inductive zVG (r:RS) (S:zA0) (i:Nat) (ms mp mc:Int):Prop
 | mk (N:Net) (S1:zA0) (e:r=.rt N.d S1) (p:NetP S i ms mp mc N S1)
inductive zYA (r:R D) (S:zA0) (i:Nat) (ms mp mc:Int):Prop
 | mk (N:Net) (S1:zA0) (e:r=.ok N.d S1) (ok:N.ok ms mp mc) (k:Kp (·=i) S S1) (st:StOk S1 i)
inductive zb1 (S0:zA0) (i l:Nat) (ms mp mc sw pl:Int) (v7 v8 v9 v10:Option D) (m:Nat) (cs:List Ct) (j:Nat) (ρ:Env1) (S':zA0):Prop
 | mk (v12:Option D) (ds:List Ct) (e:ρ=nE i ms mp mc sw pl l v7 v8 v9 v10 (some (.lst m)) v12) (Rl:Rows S0 S' i l sw pl cs) (Rd:Rows S0 S' i m sw pl ds) (h:ds.length=j)
inductive zb0 (S0:zA0) (i l:Nat) (ms mp mc sw pl:Int) (v7 v8 v9:Option D) (n0:Nat) (j:Nat) (ρ:Env1) (S':zA0):Prop
 | mk (v10:Option D) (ds:List Ct) (e:ρ=nE i ms mp mc sw pl l v7 v8 v9 v10 none none) (R:Rows S0 S' i l sw pl ds) (h:ds.length=n0+j)
inductive zaZ (S0:zA0) (i l:Nat) (ms mp mc sw pl:Int) (kr t:Nat) (j:Nat) (ρ:Env1) (S':zA0):Prop
 | mk (v8 v9:Option D) (ds:List Ct) (e:ρ=nE i ms mp mc sw pl l (some (.lst kr)) v8 v9 none none none) (R:Rows S0 S' i l sw pl ds) (h:ds.length=j) (q1:zA6 S' kr=some ((rowL pl).map D.int)) (q2:zA6 S' t=some (((rowL pl).drop 1).map D.int))
theorem zSa (h:zG6 cl) (he:zDI cl) (ht:zBp cl) (n:Nat) {S:zA0}{i:Nat} (hS:StOk S i) {ms mp mc:Int} (hms:1≤ms∧ms≤4) (hmp:2≤mp∧mp≤7) (hmc:0≤mc∧mc≤16):zYA (cl (n+3) "_law_net" [.lst i,.int ms,.int mp,.int mc] S) S i ms mp mc:=by
 obtain ⟨r1,S1,e1,a1,b1,k1,n1,st1⟩:=zAE ht (n+1) hS (m:=ms) (by omega) (by omega)
 obtain ⟨r2,S2,e2,a2,b2,k2,n2,st2⟩:=zAE ht (n+1) st1 (m:=mp - 1) (by omega) (by omega)
 generalize hsw:1+r1=sw at *
 generalize hpl:2+r2=pl at *
 have w1:1≤sw:=by omega
 have w2:sw≤ms:=by omega
 have p1:2≤pl:=by omega
 have p2:pl≤mp:=by omega
 have kS2:Kp (·=i) S S2:=k1.trans k2
 have hl:S.length≤S2.length:=kS2.le
 have li:S2.length≠i:=by have:=hS.lt; omega
 obtain ⟨kr,S4,e4,x4,hk4,l4⟩:=zT3 (ρ:=nE i ms mp mc sw pl S2.length none none none none none none) (j:=5) rfl p1 (by omega) (S2++[.lst []])
 have kri:kr≠i:=by have:=hS.lt; simp at hk4; omega
 have krl:kr≠S2.length:=by simp at hk4; omega
 have R4:Rows S S4 i S2.length sw pl []:=⟨x4.lst (zA3 _ _) (fun z=>z),(fun c hc=>by cases hc),(st2.ex (zA7 _ _)).ex x4,kS2.trans ((zA7 S2 [.lst []]).trans x4).kp,hl,li⟩
 have fin:∀ (cs:List Ct) (S5:zA0) (v7 v8 v9 v10:Option D),Rows S S5 i S2.length sw pl cs→(cs.length:Int)≤mc →
   zVG ((sSeq (sAsg (cLst (zA1 [])) (gN 11)) (sSeq (sFor (iSeq (cVar 6)) (gN 12) (zDf (cl (n+2)))) (sSeq (sRet (cTup (zA1 [(cVar 4),(cVar 5),(cApp zAh (zA1 [(cVar 11)]))]))) zA5))) (nE i ms mp mc sw pl S2.length v7 v8 v9 v10 none none) S5) S i ms mp mc:=by
  intro cs S5 v7 v8 v9 v10 R5 hc
  have hm:S.length≤S5.length:=R5.kp.le
  have mi:S5.length≠i:=by have:=hS.lt; omega
  have ml:S2.length≠S5.length:=by have:=zEs R5.at'; omega
  have Rm:Rows S (S5++[.lst []]) i S2.length sw pl cs:=R5.go (zA7 _ _).kp (R5.st.ex (zA7 _ _))
  obtain ⟨ρ',S6,e6,v12,ds,hρ,Rl,Rd,hd⟩:=zBd (w:=[(S2.length,cs.map Ct.d)]) (g:=gN 12) (b:=zDf (cl (n+2))) (items:=cs.map Ct.d)
   (zb1 S i S2.length ms mp mc sw pl v7 v8 v9 v10 S5.length cs)
   (ρ:=nE i ms mp mc sw pl S2.length v7 v8 v9 v10 (some (.lst S5.length)) none) (S:=S5++[.lst []])
   (fun j ρ S' hp=>by obtain ⟨_,_,_,q,_⟩:=hp; exact zCz q.at')
   ⟨none,[],rfl,Rm,⟨zA3 _ _,(fun c hc=>by cases hc),Rm.st,Rm.kp,hm,mi⟩,rfl⟩
   (fun j d ρ S' hd hp=>by
    obtain ⟨v12,ds,rfl,Rl,Rd,hj⟩:=hp
    rw [qA6] at hd
    obtain ⟨c,hc1,rfl⟩:=qA1.mp hd
    have cok:=R5.ok c (qB9 hc1)
    have jl:j<cs.length:=(qA5.mp hc1).1
    obtain ⟨r,S7,e7,r0,r9,k7,n7,st7⟩:=zAE ht (n+1) Rl.st (m:=((ds.map Ct.d).length:Int)+1) (by omega) (by rw [qA2]; omega)
    rw [qA2] at e7 r9
    have hins:∀ c'∈ds.take r.toNat++c::ds.drop r.toNat,c'.ok sw pl:=fun c' hc'=>by
     rcases qD2.mp hc' with q | q
     ·exact Rd.ok c' (qL8 q)
     ·rcases qB7.mp q with q | q
      ·subst q; exact cok
      ·exact Rd.ok c' (qP0 q)
    have Rd7:=Rd.put k7 st7 hins
    have Rl7:Rows S (S7.set S5.length (.lst ((ds.take r.toNat++c::ds.drop r.toNat).map Ct.d))) i S2.length sw pl cs:=⟨zEr (k7.lst Rl.at' Rl.ne) (Ne.symm ml),Rl.ok,st7.setO Rd.ne,(Rl.kp.trans k7).setNew Rd.ge,Rl.ge,Rl.ne⟩
    refine ⟨_,_,rfl,_,_,.inl ?_,⟨some c.d,ds.take r.toNat++c::ds.drop r.toNat,rfl,Rl7,Rd7,by simp; omega⟩⟩
    have q1:=zCl Rd.at'
    have q2:=zDD Rd.at'
    have q3:=zEq (k7.lst Rd.at' Rd.ne) zDC [.int r,c.d]
    have q4:ds.length<1000∧0≤r∧r.toNat≤ds.length:=by omega
    simp [nE,zDf,q1,q2,e7,q3,q4])
  subst hρ
  refine ⟨⟨sw,pl,ds⟩,S6,?_,⟨⟨w1,w2,p1,p2,by show (ds.length:Int)≤mc; rw [hd,qA2]; exact hc,Rd.ok⟩,Rd.kp,Rd.st⟩⟩
  have q5:zA6 (S5++[O.lst []]) S2.length=some (cs.map Ct.d):=Rm.at'
  have q6:=zAg Rd.at'
  unfold nE at e6 ⊢
  simp [q5,e6,q6,Net.d]
 have mid:∀ (cs:List Ct) (S5:zA0) (v7 v8 v9:Option D),Rows S S5 i S2.length sw pl cs→(cs.length:Int)≤mc →
   zVG ((sSeq (sFor (zB4 (zA1 [(cApp (cl (n+2) "_law_take") (zA1 [(cVar 0),(cBin oAdd (cBin (oInt fun i j=>i - j) (cVar 3) (cApp fLen (zA1 [(cVar 6)]))) (cCon (.int 1)))]))])) (gN 10) (zEt (cl (n+2))))
    (sSeq (sAsg (cLst (zA1 [])) (gN 11)) (sSeq (sFor (iSeq (cVar 6)) (gN 12) (zDf (cl (n+2)))) (sSeq (sRet (cTup (zA1 [(cVar 4),(cVar 5),(cApp zAh (zA1 [(cVar 11)]))]))) zA5)))) (nE i ms mp mc sw pl S2.length v7 v8 v9 none none none) S5) S i ms mp mc:=by
  intro cs S5 v7 v8 v9 R5 hc
  obtain ⟨r,S6,e6,r0,r9,k6,n6,st6⟩:=zAE ht (n+1) R5.st (m:=mc - ((cs.map Ct.d).length:Int)+1) (by rw [qA2]; omega) (by omega)
  rw [qA2] at e6 r9
  have R6:=R5.go k6 st6
  obtain ⟨ρ',S7,e7,v10,ds,hρ,Rd,hd⟩:=zBd (w:=[]) (g:=gN 10) (b:=zEt (cl (n+2))) (items:=upD 0 r.toNat)
   (zb0 S i S2.length ms mp mc sw pl v7 v8 v9 cs.length)
   (fun j ρ S' hp=>zAp _) ⟨none,cs,rfl,R6,rfl⟩
   (fun j d ρ S' hd hp=>by
    obtain ⟨v10,ds,rfl,R,hj⟩:=hp
    rw [zEI] at hd
    obtain ⟨hjr,rfl⟩:=hd
    obtain ⟨x,y,S8,e8,x0,xy,yp,k8,st8⟩:=zQC he ht n R.st p1 (by omega)
    obtain ⟨r3,S9,e9,a3,b3,k9,n9,st9⟩:=zAE ht (n+1) st8 (m:=sw) (by omega) (by omega)
    obtain ⟨r4,S10,e10,a4,b4,k10,n10,st10⟩:=zAE ht (n+1) st9 (m:=2) (by omega) (by omega)
    have kk:=(k8.trans k9).trans k10
    have hok:∀ c∈ds++[⟨x,y,r3,r4⟩],Ct.ok sw pl c:=fun c hc=>by
     rcases qD2.mp hc with q | q
     ·exact R.ok c q
     ·simp at q; subst q; exact ⟨x0,xy,yp,a3,b3,a4,b4⟩
    have Rd:=R.put kk st10 hok
    refine ⟨_,_,rfl,_,_,.inl ?_,⟨some (.int (0+(j:Int))),ds++[⟨x,y,r3,r4⟩],rfl,Rd,by simp; omega⟩⟩
    have q1:=zCl R.at'
    have q2:=zEq (kk.lst R.at' R.ne) zC2 [Ct.d ⟨x,y,r3,r4⟩]
    have q3:ds.length<lim:=by rw [zB0]; omega
    have q4:(2:Nat)+2≤lim:=by decide
    simp [nE,zEt,q1,e8,e9,e10,Ct.d,q4] at q2 ⊢
    simp [q2,q3])
  subst hρ
  obtain ⟨N,S11,e11,r11⟩:=fin ds S7 v7 v8 v9 v10 Rd (by rw [hd,zBL]; omega)
  refine ⟨N,S11,?_,r11⟩
  have q5:=zDD R5.at'
  rw [qA2] at q5
  have q6:-4611686018427387904≤r∧r<4611686018427387904:=by omega
  rw [zLt,zU5]
  unfold nE at e7 e11 ⊢
  simp [q5,e6,q6,e7,-zLt,e11]
 obtain ⟨c5,S5,e5,a5,b5,k5,n5,st5⟩:=zAE ht (n+1) R4.st (m:=2) (by omega) (by omega)
 have R5:=R4.go k5 st5
 have l5:zA6 S5 kr=some ((rowL pl).map D.int):=k5.lst l4 kri
 have main:zVG (zDt (cl (n+2)) [some (.lst i),some (.int ms),some (.int mp),some (.int mc),none,none,none,none,none,none,none,none,none] S) S i ms mp mc:=by
  unfold nE at e4
  by_cases hc:c5=0∧pl - 1≤mc
  ·have hcut:cutD ((rowL pl).map D.int) (some 1) none=((rowL pl).drop 1).map D.int:=by
    unfold cutD
    have hs:HT.sIx ((rowL pl).map D.int).length 0 (some 1)=1:=by
     have:=HT.sIx_nat ((rowL pl).map D.int).length 0 1
     have hl:=zJ8 p1
     rw [qA2] at this ⊢
     rw [show ((1:Nat):Int)=1 from rfl] at this
     rw [this]; omega
    rw [hs,HT.sIx_none,qP4,qG1 (by simp)]
   have x6:=zA7 S5 [O.lst (((rowL pl).drop 1).map D.int)]
   have t6:zA6 (S5++[O.lst (((rowL pl).drop 1).map D.int)]) S5.length=some (((rowL pl).drop 1).map D.int):=zA3 _ _
   have l6:=x6.lst l5 (fun z=>z)
   have ti:S5.length≠i:=by have:=st5.lt; omega
   have tl:S5.length≠S2.length:=by have:=zEs R5.at'; omega
   have R6:=R5.go x6.kp (st5.ex x6)
   obtain ⟨ρ',S7,e7,v8,v9,ds,hρ,Rd,hd,_⟩:=zBd (w:=[(kr,(rowL pl).map D.int),(S5.length,((rowL pl).drop 1).map D.int)]) (g:=gT [gN 8,gN 9]) (b:=zFN (cl (n+2))) (items:=zipD ((rowL pl).map D.int) (((rowL pl).drop 1).map D.int))
    (zaZ S i S2.length ms mp mc sw pl kr S5.length)
    (ρ:=nE i ms mp mc sw pl S2.length (some (.lst kr)) none none none none none) (S:=S5++[O.lst (((rowL pl).drop 1).map D.int)])
    (fun j ρ S' hp=>by obtain ⟨_,_,_,_,_,_,q1,q2⟩:=hp; exact zUF q1 q2)
    ⟨none,none,[],rfl,R6,rfl,l6,t6⟩
    (fun j d ρ S' hd hp=>by
     obtain ⟨v8,v9,ds,rfl,R,hj,q1,q2⟩:=hp
     have hz:∃ x y,(rowL pl)[j]?=some x∧(rowL pl)[1+j]?=some y∧d=.tup [.int x,.int y]:=by
      unfold zipD at hd
      rw [qA6] at hd
      obtain ⟨⟨x,y⟩,hxy,rfl⟩:=qA1.mp hd
      rw [qD8,qA6,qA6,List.getElem?_drop] at hxy
      obtain ⟨hx,hy⟩:=hxy
      obtain ⟨x',hx',rfl⟩:=qA1.mp hx
      obtain ⟨y',hy',rfl⟩:=qA1.mp hy
      exact ⟨x',y',hx',hy',rfl⟩
     obtain ⟨x,y,hx,hy,rfl⟩:=hz
     have hjl:1+j<(rowL pl).length:=(qA5.mp hy).1
     rw [zJ8 p1] at hjl
     rw [zML p1 (by omega)] at hx hy
     cases hx
     cases hy
     obtain ⟨r3,S9,e9,a3,b3,k9,n9,st9⟩:=zAE ht (n+1) R.st (m:=sw) (by omega) (by omega)
     obtain ⟨r4,S10,e10,a4,b4,k10,n10,st10⟩:=zAE ht (n+1) st9 (m:=2) (by omega) (by omega)
     have kk:=k9.trans k10
     obtain ⟨m1,m2,m3⟩:=mima (n:=pl) (zJ9 p1 (i:=(j:Int)) (by omega) (by omega)) (zJ9 p1 (i:=((1+j:Nat):Int)) (by omega) (by omega)) (zPr p1 (by omega) (by omega) (by omega))
     generalize hX:(if rowJ pl ((1+j:Nat):Int)<rowJ pl (j:Int) then rowJ pl ((1+j:Nat):Int) else rowJ pl (j:Int))=X at m1 m2
     generalize hY:(if rowJ pl ((1+j:Nat):Int)>rowJ pl (j:Int) then rowJ pl ((1+j:Nat):Int) else rowJ pl (j:Int))=Y at m2 m3
     have hok:∀ c∈ds++[⟨X,Y,r3,r4⟩],Ct.ok sw pl c:=fun c hc=>by
      rcases qD2.mp hc with q | q
      ·exact R.ok c q
      ·simp at q; subst q; exact ⟨m1,m2,m3,a3,b3,a4,b4⟩
     have Rd:=R.put kk st10 hok
     refine ⟨_,_,rfl,_,_,.inl ?_,⟨some (.int (rowJ pl (j:Int))),some (.int (rowJ pl ((1+j:Nat):Int))),ds++[⟨X,Y,r3,r4⟩],rfl,Rd,by simp; omega,zEr (kk.lst q1 kri) krl.symm,zEr (kk.lst q2 ti) tl.symm⟩⟩
     have q7:=zCl R.at'
     have q8:=zEq (kk.lst R.at' R.ne) zC2 [Ct.d ⟨X,Y,r3,r4⟩]
     have q9:ds.length<lim:=by rw [zB0]; omega
     simp [nE,zFN,q7,e9,e10,Ct.d,-Int.natCast_add,hX,hY] at q8 ⊢
     simp [q8,q9])
   have hdl:ds.length=pl.toNat - 1:=by
    rw [hd]
    unfold zipD
    rw [qA2,qG8,qA2,qA2,qG4,zJ8 p1]
    exact qN4 (qR9 _ _)
   subst hρ
   obtain ⟨N,S11,e11,r11⟩:=mid ds S7 (some (.lst kr)) v8 v9 Rd (by omega)
   unfold nE at e7 e11
   refine ⟨N,S11,?_,r11⟩
   have q3:=zUJ l5 (some 1) none
   rw [hcut] at q3
   unfold zDt
   generalize hT:((rowL pl).drop 1).map D.int=T at q3 l6 t6 e7
   generalize hT2:(rowL pl).map D.int=T2 at q3 l6 t6 e7
   simp [e1,e2,hsw,hpl,↓e4,e5,hc.1,hc.2,q3,l6,t6,e7,↓e11]
  ·obtain ⟨N,S11,e11,r11⟩:=mid [] S5 (some (.lst kr)) none none R5 (by show (0:Int)≤mc; omega)
   unfold nE at e11
   refine ⟨N,S11,?_,r11⟩
   unfold zDt
   by_cases h0:c5=0
   ·have h1:¬ (pl - 1≤mc):=fun z=>hc ⟨h0,z⟩
    simp [e1,e2,hsw,hpl,↓e4,e5,h0,h1,↓e11]
   ·simp [e1,e2,hsw,hpl,↓e4,e5,h0,↓e11]
 obtain ⟨N,S12,e12,a12,b12,c12⟩:=main
 exact ⟨N,S12,by rw [show n+3=(n+2)+1 from rfl,h]; exact zAa rfl e12,a12,b12,c12⟩
end My
namespace Mt
def zLf (es:List (Int × Int)):Prop:=∀ C:Int→Prop,C 0→(∀ e∈es,(C e.1↔C e.2))→C 1
structure zEi (es:List (Int × Int)) (s:Int) (F:Int→Prop):Prop where
 start:F s
 closed:∀ e∈es,(F e.1↔F e.2)
 least:∀ C:Int→Prop,C s→(∀ e∈es,(C e.1↔C e.2))→∀ x,F x→C x
theorem zEi.joined {es:List (Int × Int)}{F:Int→Prop} (h:zEi es 0 F):F 1↔zLf es:=⟨fun f C c0 cc=>h.least C c0 cc 1 f,fun j=>j F h.start h.closed⟩
theorem zHv {α:Type}{p q:α→Bool}{l:List α} (h:∀ x,p x=true→q x=true) {a:α} (ha:a∈l) (h1:q a=true) (h2:p a=false):(l.filter p).length<(l.filter q).length:=by
 induction l with
 | nil=>cases ha
 | cons x r ih =>
  have le:(r.filter p).length≤(r.filter q).length:=by
   clear ih ha
   induction r with
   | nil=>simp
   | cons y r ih =>
    rw [qE0,qE0]
    cases hp:p y with
    | true=>rw [h y hp]; simpa using ih
    | false =>
     cases q y with
     | true=>simp; omega
     | false=>simpa using ih
  rw [qE0,qE0]
  rcases qB7.mp ha with e | e
  ·subst e
   rw [h1,h2]; simp; omega
  ·have:=ih e
   cases hp:p x with
   | true=>rw [h x hp]; simpa using this
   | false =>
    cases q x with
    | true=>simp; omega
    | false=>simpa using this
noncomputable def mk1 (ms:List Int) (e:Int × Int):List Int :=
 let l:=if ms.getD e.2.toNat 0<ms.getD e.1.toNat 0 then ms.getD e.2.toNat 0 else ms.getD e.1.toNat 0
 (ms.set e.1.toNat l).set e.2.toNat l
structure MOk (pl:Int) (ms:List Int):Prop where
 len:(ms.length:Int)=pl
 pos:∀ (i:Nat) x,ms[i]?=some x→0≤x
def Z (ms:List Int) (x:Int):Prop:=0≤x∧ms[x.toNat]?=some 0
theorem zXz {pl:Int}{ms:List Int}{e:Int × Int} (h:MOk pl ms) (h1:0≤e.1∧e.1<pl) (h2:0≤e.2∧e.2<pl):MOk pl (mk1 ms e)∧∀ x,Z (mk1 ms e) x↔Z ms x∨((x=e.1∨x=e.2)∧(Z ms e.1∨Z ms e.2)):=by
 obtain ⟨a,b⟩:=e
 dsimp only at h1 h2 ⊢
 have la:a.toNat<ms.length:=by have:=h.len; omega
 have lb:b.toNat<ms.length:=by have:=h.len; omega
 have ga:ms[a.toNat]?=some ms[a.toNat]:=qA0 la
 have gb:ms[b.toNat]?=some ms[b.toNat]:=qA0 lb
 have pa:=h.pos _ _ ga
 have pb:=h.pos _ _ gb
 have da:ms.getD a.toNat 0=ms[a.toNat]:=by simp [qF5,ga]
 have db:ms.getD b.toNat 0=ms[b.toNat]:=by simp [qF5,gb]
 unfold mk1
 dsimp only
 rw [da,db]
 generalize hA:ms[a.toNat]=A at *
 generalize hB:ms[b.toNat]=B at *
 generalize hl:(if B<A then B else A)=l
 have l0:0≤l:=by
  rw [← hl]
  split
  ·exact pb
  ·exact pa
 have lz:l=0↔A=0∨B=0:=by
  rw [← hl]
  split
  ·rename_i q
   exact ⟨.inr,fun z=>z.elim (fun z=>absurd (z▸q:B<0) (Int.not_lt.mpr pb)) id⟩
  ·rename_i q
   exact ⟨.inl,fun z=>z.elim id fun z=>qO4 (z▸Int.not_lt.mp q:A≤0) pa⟩
 have get:∀ i:Nat,((ms.set a.toNat l).set b.toNat l)[i]?=if i=b.toNat∨i=a.toNat then some l else ms[i]?:=by
  intro i
  by_cases hb:i=b.toNat
  ·subst hb
   rw [qD4 (by simpa using lb),if_pos (.inl rfl)]
  ·rw [qD7 (fun z=>hb z.symm)]
   by_cases ha:i=a.toNat
   ·subst ha
    rw [qD4 la,if_pos (.inr rfl)]
   ·rw [qD7 (fun z=>ha z.symm),if_neg (by omega)]
 refine ⟨⟨by simpa using h.len,fun i x hx=>?_⟩,fun x=>?_⟩
 ·rw [get] at hx
  split at hx
  ·cases hx; exact l0
  ·exact h.pos i x hx
 ·unfold Z
  rw [get,ga,gb]
  simp only [Option.some.injEq]
  constructor
  ·rintro ⟨x0,hx⟩
   split at hx
   ·rename_i hi
    cases hx
    have:=lz.mp rfl
    refine .inr ⟨by omega,?_⟩
    rcases this with z | z
    ·exact .inl ⟨h1.1,z⟩
    ·exact .inr ⟨h2.1,z⟩
   ·exact .inl ⟨x0,hx⟩
  ·rintro (⟨x0,hx⟩ | ⟨hx,hz⟩)
   ·refine ⟨x0,?_⟩
    split
    ·rename_i hi
     rcases hi with hi | hi
     ·rw [hi,gb] at hx; rw [lz.mpr (.inr (Option.some.inj hx))]
     ·rw [hi,ga] at hx; rw [lz.mpr (.inl (Option.some.inj hx))]
    ·exact hx
   ·refine ⟨by omega,?_⟩
    rw [if_pos (by omega)]
    congr 1
    rcases hz with ⟨_,z⟩ | ⟨_,z⟩
    ·exact lz.mpr (.inl z)
    ·exact lz.mpr (.inr z)
theorem zMM {pl:Int}:∀ (es:List (Int × Int)) {ms:List Int},MOk pl ms→(∀ e∈es,(0≤e.1∧e.1<pl)∧0≤e.2∧e.2<pl)→MOk pl (es.foldl mk1 ms)∧(∀ x,Z ms x→Z (es.foldl mk1 ms) x) ∧
  ((∀ x,Z (es.foldl mk1 ms) x→Z ms x)→∀ e∈es,(Z ms e.1↔Z ms e.2))∧((∀ e∈es,(Z ms e.1↔Z ms e.2))→∀ x,Z (es.foldl mk1 ms) x→Z ms x) ∧
  (∀ C:Int→Prop,(∀ e∈es,(C e.1↔C e.2))→(∀ x,Z ms x→C x)→∀ x,Z (es.foldl mk1 ms) x→C x)
 | [],ms,h,hb=>⟨h,fun x z=>z,fun _ e he=>by simp at he,fun _ x z=>z,fun C _ hc x z=>hc x z⟩
 | e::es,ms,h,hb=>by
  obtain ⟨h1,z1⟩:=zXz h (hb e (by simp)).1 (hb e (by simp)).2
  obtain ⟨g1,g2,g3,g4,g5⟩:=zMM es h1 fun e' he=>hb e' (by simp [he])
  rw [qK0]
  refine ⟨g1,fun x z=>g2 x ((z1 x).mpr (.inl z)),fun hs e' he=>?_,fun hc x z=>?_,fun C cc hC x z=>?_⟩
  ·have hs1:∀ x,Z (mk1 ms e) x→Z ms x:=fun x z=>hs x (g2 x z)
   have same:∀ x,Z (mk1 ms e) x↔Z ms x:=fun x=>⟨hs1 x,fun z=>(z1 x).mpr (.inl z)⟩
   rcases qB7.mp he with q | q
   ·subst q
    exact ⟨fun z=>hs1 _ ((z1 _).mpr (.inr ⟨.inr rfl,.inl z⟩)),fun z=>hs1 _ ((z1 _).mpr (.inr ⟨.inl rfl,.inr z⟩))⟩
   ·have:=g3 (fun x z=>(same x).mpr (hs x z)) e' q
    rw [same,same] at this
    exact this
  ·have he:=hc e (by simp)
   have same:∀ x,Z (mk1 ms e) x↔Z ms x:=fun x=>by
    rw [z1]
    constructor
    ·rintro (z | ⟨z,w⟩)
     ·exact z
     ·rcases z with z | z
      ·subst z; rcases w with w | w; exact w; exact he.mpr w
      ·subst z; rcases w with w | w; exact he.mp w; exact w
    ·exact .inl
   have:=g4 (fun e' he'=>by rw [same,same]; exact hc e' (by simp [he'])) x z
   exact (same x).mp this
  ·refine g5 C (fun e' he'=>cc e' (by simp [he'])) (fun x z=>?_) x z
   rcases (z1 x).mp z with z | ⟨z,w⟩
   ·exact hC x z
   ·have he:=cc e (by simp)
    rcases z with z | z
    ·subst z; rcases w with w | w; exact hC _ w; exact he.mpr (hC _ w)
    ·subst z; rcases w with w | w; exact he.mp (hC _ w); exact hC _ w
noncomputable def zA9 (es:List (Int × Int)):Nat→List Int→List Int
 | 0,ms=>ms
 | n+1,ms=>zA9 es n (es.foldl mk1 ms)
noncomputable def zFz (pl:Nat) (ms:List Int):Nat:=((List.range pl).filter fun i=>decide (ms[i]?=some 0)).length
theorem zMy (pl:Nat) (ms:List Int):zFz pl ms≤pl:=by
 unfold zFz
 have:=qD9 (fun i=>decide (ms[i]?=some 0)) (List.range pl)
 simpa using this
theorem zRp {pl:Nat}{ms ns:List Int} (h:∀ x,Z ms x→Z ns x) {x:Int} (hx:Z ns x) (hn:¬ Z ms x) (hl:x<pl):zFz pl ms<zFz pl ns:=by
 unfold zFz
 refine zHv (a:=x.toNat) (fun i hi=>?_) ?_ ?_ ?_
 ·have:Z ms i:=⟨by omega,by simpa using hi⟩
  have:=(h i this).2
  simpa using this
 ·rw [qB5]; have:=hx.1; omega
 ·simpa using hx.2
 ·simp only [decide_eq_false_iff_not]
  exact fun z=>hn ⟨hx.1,z⟩
theorem zF6 {pl:Nat}{es:List (Int × Int)} (hb:∀ e∈es,(0≤e.1∧e.1<pl)∧0≤e.2∧e.2<pl):∀ (n:Nat) {ms:List Int},MOk pl ms→MOk pl (zA9 es n ms)∧(∀ x,Z ms x→Z (zA9 es n ms) x) ∧
  ((∀ e∈es,(Z (zA9 es n ms) e.1↔Z (zA9 es n ms) e.2))∨zFz pl ms+n≤zFz pl (zA9 es n ms)) ∧
  (∀ C:Int→Prop,(∀ e∈es,(C e.1↔C e.2))→(∀ x,Z ms x→C x)→∀ x,Z (zA9 es n ms) x→C x) ∧
  ((∀ e∈es,(Z ms e.1↔Z ms e.2))→∀ x,Z (zA9 es n ms) x→Z ms x)
 | 0,ms,h=>⟨h,fun x z=>z,.inr (qB0 _),fun C _ hC x z=>hC x z,fun _ x z=>z⟩
 | n+1,ms,h=>by
  obtain ⟨h1,a2,a3,a4,a5⟩:=zMM es h hb
  obtain ⟨g1,g2,g3,g4,g5⟩:=zF6 hb n h1
  show MOk pl (zA9 es n (es.foldl mk1 ms))∧_
  refine ⟨g1,fun x z=>g2 x (a2 x z),?_,fun C cc hC x z=>g4 C cc (a5 C cc hC) x z,fun hc x z=>?_⟩
  ·rcases g3 with g3 | g3
   ·exact .inl g3
   ·by_cases hs:∀ x,Z (es.foldl mk1 ms) x→Z ms x
    ·have c0:=a3 hs
     have same:∀ x,Z (es.foldl mk1 ms) x↔Z ms x:=fun x=>⟨hs x,a2 x⟩
     have c1:∀ e∈es,(Z (es.foldl mk1 ms) e.1↔Z (es.foldl mk1 ms) e.2):=fun e he=>by rw [same,same]; exact c0 e he
     have back:=g5 c1
     have same2:∀ x,Z (zA9 es n (es.foldl mk1 ms)) x↔Z (es.foldl mk1 ms) x:=fun x=>⟨back x,g2 x⟩
     exact .inl fun e he=>by
      show Z (zA9 es n (es.foldl mk1 ms)) e.1↔Z (zA9 es n (es.foldl mk1 ms)) e.2
      rw [same2,same2]; exact c1 e he
    ·refine .inr ?_
     have:∃ x,Z (es.foldl mk1 ms) x∧¬ Z ms x:=Classical.byContradiction fun hn=>hs fun x z=>Classical.byContradiction fun hx=>hn ⟨x,z,hx⟩
     obtain ⟨x,zx,nx⟩:=this
     have xl:x<pl:=by
      have:=(qA5.mp zx.2).1
      have hl:=h1.len
      have:=zx.1
      omega
     have:=zRp (pl:=pl) a2 zx nx xl
     show zFz pl ms+(n+1)≤zFz pl (zA9 es n (es.foldl mk1 ms))
     omega
  ·have c1:∀ e∈es,(Z (es.foldl mk1 ms) e.1↔Z (es.foldl mk1 ms) e.2):=by
    have same:∀ x,Z (es.foldl mk1 ms) x↔Z ms x:=fun x=>⟨a4 hc x,a2 x⟩
    intro e he
    rw [same,same]; exact hc e he
   exact a4 hc x (g5 c1 x z)
theorem zSd {pl:Nat}{es:List (Int × Int)} (hp:0<pl) (hb:∀ e∈es,(0≤e.1∧e.1<pl)∧0≤e.2∧e.2<pl):MOk pl (zA9 es pl ((List.range pl).map fun (k:Nat)=>(k:Int)))∧zEi es 0 (Z (zA9 es pl ((List.range pl).map fun (k:Nat)=>(k:Int)))):=by
 have m0:MOk pl ((List.range pl).map fun (k:Nat)=>(k:Int)):=⟨by simp,fun i x hx=>by
  rw [qA6] at hx
  obtain ⟨k,_,rfl⟩:=qA1.mp hx
  omega⟩
 have z0:Z ((List.range pl).map fun (k:Nat)=>(k:Int)) 0:=⟨by omega,by
  show ((List.range pl).map fun (k:Nat)=>(k:Int))[0]?=some 0
  rw [qA6,qC8 hp]; rfl⟩
 have zz:∀ x,Z ((List.range pl).map fun (k:Nat)=>(k:Int)) x→x=0:=fun x hx=>by
  obtain ⟨x0,q⟩:=hx
  rw [qA6] at q
  obtain ⟨k,hk,e⟩:=qA1.mp q
  have:=qA5.mp hk
  obtain ⟨h1,h2⟩:=this
  simp at h2
  omega
 obtain ⟨g1,g2,g3,g4,g5⟩:=zF6 hb pl m0
 refine ⟨g1,g2 0 z0,?_,fun C c0 cc x z=>g4 C cc (fun y hy=>by rw [zz y hy]; exact c0) x z⟩
 rcases g3 with g3 | g3
 ·exact g3
 ·exfalso
  have h1:=zMy pl (zA9 es pl ((List.range pl).map fun (k:Nat)=>(k:Int)))
  have h2:0<zFz pl ((List.range pl).map fun (k:Nat)=>(k:Int)):=by
   unfold zFz
   rw [qP2]
   intro hn
   have:(0:Nat)∈(List.range pl).filter fun i=>decide (((List.range pl).map fun (k:Nat)=>(k:Int))[i]?=some 0):=by
    rw [qB2]
    exact ⟨by simpa using hp,by simpa using z0.2⟩
   rw [hn] at this
   cases this
  omega
end Mt
namespace My
open PySem L2 Mt
variable {cl:Nat→CLL}
noncomputable def zA4 (st:List Int):D:=.tup (st.map D.int)
noncomputable def zAr (c:Ct) (st:List Int):Bool:=decide (st.getD c.k.toNat 0=c.o)
theorem zGM {l:List Int}{k:Int} (h0:0≤k) (h1:k<l.length):atI (l.map D.int) k=some (.int (l.getD k.toNat 0)):=by
 have e:l[k.toNat]?=some (l.getD k.toNat 0):=by rw [qF5,qA0 (by omega)]; rfl
 have q:=zCQ (xs:=l.map D.int) (j:=k.toNat) (v:=.int (l.getD k.toNat 0)) (by rw [qA6,e]; rfl)
 rw [show ((k.toNat:Nat):Int)=k by omega] at q
 exact q
theorem zGe (h:zBs cl) (n:Nat) (c:Ct) (st:List Int) (h0:0≤c.k) (h1:c.k<st.length) (S:zA0):cl (n+1) "is_shut" [c.d,zA4 st] S=.ok (.bl (zAr c st)) S:=by
 rw [h]
 refine zAa rfl ?_
 simp [zFu,zAu,Ct.d,zA4,zGM h0 h1,zAr]
noncomputable def zCT {α:Type} (l:List α):List (Nat × α):=(List.range l.length).zip l
theorem zKK {α:Type} (e:α→D) (l:List α):zEW (l.map e)=(zCT l).map fun q=>.tup [.int (q.1:Nat),e q.2]:=by
 unfold zEW zCT
 rw [qA2,List.zip_map_right,qC0]
 rfl
theorem zFj {α:Type}{l:List α}{q:Nat × α} (h:q∈zCT l):l[q.1]?=some q.2:=by
 unfold zCT at h
 obtain ⟨i,hi⟩:=qL7 h
 rw [qD8] at hi
 obtain ⟨h1,h2⟩:=hi
 have:=qA5.mp h1
 obtain ⟨h3,h4⟩:=this
 simp at h4
 rw [← h4]; exact h2
theorem zQz {α:Type} (l:List α):(zCT l).map (·.2)=l:=by
 unfold zCT
 exact qR0 (by simp)
noncomputable def zCZ (cs:List Ct) (st:List Int):List Nat:=((zCT cs).filter fun q=>zAr q.2 st).map (·.1)
noncomputable def zBk (l:List Nat):List D:=l.map fun (k:Nat)=>D.int (k:Nat)
theorem zE1:(1000:Nat)<lim:=by decide
theorem zKJ {α:Type} (l:List α):(zCT l).length=l.length:=by unfold zCT; simp
theorem zG8 (h:zG5 cl) (hi:zBs cl) (n:Nat) (N:Net) (st:List Int) (hc:N.cs.length≤100) (hk:∀ c∈N.cs,0≤c.k∧c.k<st.length) (S:zA0):Spc (cl (n+2) "shut_at" [N.d,zA4 st] S) ((.tup (zBk (zCZ N.cs st)))) S:=by
 have e1:zAq [] (.many 2) (zFE (cl (n+1))) (zFF (cl (n+1))) [none,none,some (zA4 st)] ((zCT N.cs).map fun q=>.tup [.int (q.1:Nat),q.2.d]) S=.ok (((zCT N.cs).filter fun q=>zAr q.2 st).map fun q=>.int (q.1:Nat)) S:=by
  refine zBF (fun q:Nat × Ct=>.tup [.int (q.1:Nat),q.2.d]) (zAp S) _ _ _ fun q hq=>⟨_,rfl,?_,fun _=>?_⟩
  ·have hm:q.2∈N.cs:=qB9 (zFj hq)
   have:=zGe hi n q.2 st (hk _ hm).1 (hk _ hm).2 S
   simp [zFE,zGU,this]
  ·simp [zFF,zGU]
 refine ⟨_,?_,zA7 S [.lst (zBk (zCZ N.cs st))]⟩
 rw [show n+2=(n+1)+1 from rfl,h]
 refine zAa rfl ?_
 have e2:((zCT N.cs).filter fun q=>zAr q.2 st).map (fun q=>D.int (q.1:Nat))=zBk (zCZ N.cs st):=by unfold zBk zCZ; rw [qC0]; rfl
 rw [e2] at e1
 have e3:=zAg (zA3 S (zBk (zCZ N.cs st)))
 have e4:(zCT N.cs).length<lim:=by rw [zKJ]; have:=zE1; omega
 simp [zFs,zAu,Net.d,zKK,e1,e3,e4]
noncomputable def ends (cs:List Ct):List (Int × Int):=cs.map fun c=>(c.a,c.b)
noncomputable def cntF (B:Nat) (fs:List Int):Nat:=((List.range B).filter fun (v:Nat)=>decide ((v:Int)∈fs)).length
theorem zM8 (B:Nat) (fs:List Int):cntF B fs≤B:=by
 unfold cntF
 have:=qD9 (fun (v:Nat)=>decide ((v:Int)∈fs)) (List.range B)
 simpa using this
theorem zQR {B:Nat}{fs gs:List Int} (h:∀ x,x∈fs→x∈gs) {x:Int} (hx:x∈gs) (hn:x∉fs) (h0:0≤x) (hB:x<B):cntF B fs<cntF B gs:=by
 unfold cntF
 refine zHv (a:=x.toNat) (fun v hv=>?_) ?_ ?_ ?_
 ·simp only [decide_eq_true_eq] at hv ⊢; exact h _ hv
 ·rw [qB5]; omega
 ·simp only [decide_eq_true_eq]; rw [show ((x.toNat:Nat):Int)=x by omega]; exact hx
 ·simp only [decide_eq_false_iff_not]; rw [show ((x.toNat:Nat):Int)=x by omega]; exact hn
theorem zJD (fs:List Int) (a:Int):(addK fs a).length≤fs.length+1:=by unfold addK; split <;> simp
noncomputable def pE (s:Int) (k l:Nat) (g:Bool) (v:Option D):Env1:=[some (.int s),some (.lst k),some (.dct l),some (.bl g),v]
def Clo (cs:List Ct) (s:Int) (fs:List Int):Prop:=∀ C:Int→Prop,C s→(∀ e∈ends cs,(C e.1↔C e.2))→∀ x∈fs,C x
inductive PlW (cs:List Ct) (s:Int) (k:Nat) (S:zA0) (m:Nat) (ρ:Env1) (S':zA0):Prop
 | mk (fs:List Int) (g:Bool) (v4:Option D) (e:ρ=pE s k S.length g v4) (kp:Kp (·=S.length) (S++[.dk (dkOf [s])]) S') (hf:S'[S.length]?=some (.dk (dkOf fs))) (r1:s∈fs) (r2:Clo cs s fs) (r3:g=false→∀ e∈ends cs,(e.1∈fs↔e.2∈fs)) (r4:g=true→m+cntF 7 fs=9) (r5:fs.length+200*m≤2000) (nd:fs.Nodup)
inductive PlQ (cs:List Ct) (s:Int) (k:Nat) (S:zA0) (ρ:Env1) (S':zA0):Prop
 | mk (fs:List Int) (v4:Option D) (e:ρ=pE s k S.length false v4) (kp:Kp (·=S.length) (S++[.dk (dkOf [s])]) S') (hf:S'[S.length]?=some (.dk (dkOf fs))) (r1:s∈fs) (r2:Clo cs s fs) (r3:∀ e∈ends cs,(e.1∈fs↔e.2∈fs)) (nd:fs.Nodup)
inductive PlL (cs:List Ct) (s:Int) (k:Nat) (S:zA0) (fs:List Int) (j:Nat) (ρ:Env1) (S2:zA0):Prop
 | mk (fs2:List Int) (g2:Bool) (v4:Option D) (e:ρ=pE s k S.length g2 v4) (kp:Kp (·=S.length) (S++[.dk (dkOf [s])]) S2) (hf:S2[S.length]?=some (.dk (dkOf fs2))) (q1:∀ x∈fs,x∈fs2) (q2:Clo cs s fs2)
  (q3:g2=false→fs2=fs∧∀ i c,i<j→cs[i]?=some c→(c.a∈fs↔c.b∈fs)) (q4:g2=true→cntF 7 fs<cntF 7 fs2) (q5:fs2.length≤fs.length+2*j) (nd:fs2.Nodup)
theorem zRd {fs:List Int} (h:fs.Nodup) (a:Int):(addK fs a).Nodup:=by
 unfold addK
 split
 ·exact h
 ·rename_i ha
  exact qH6.mpr ⟨h,by simp,fun x hx y hy e=>ha (by rw [qE6] at hy; subst hy; subst e; exact hx)⟩
theorem zKi (h:zAC cl) (n:Nat) (cs:List Ct) (s:Int) (hs:0≤s∧s<7) (hc:cs.length≤100) (hb:∀ c∈cs,(0≤c.a∧c.a<7)∧0≤c.b∧c.b<7) {S:zA0}{k:Nat} (hk:zA6 S k=some (cs.map Ct.d)) :
  ∃ m S1 fs,cl (n+1) "places_from" [.int s,.lst k] S=.ok (.dct m) S1∧Ex S S1∧S1[m]?=some (.dk (dkOf fs))∧zEi (ends cs) s (·∈fs)∧fs.Nodup:=by
 have km:k≠S.length:=by have:=zEs hk; omega
 obtain ⟨ρ',S',e,fs,v4,rfl,kp,hfs,r1,r2,r3,nd⟩:=zIW (t:=cTru (cVar 3)) (b:=zCo (cl n)) (PlW cs s k S) (PlQ cs s k S)
  (fun m ρ S' hp=>by
   obtain ⟨fs,g,v4,rfl,kp,hfs,r1,r2,r3,r4,r5,nd⟩:=hp
   cases g with
   | false=>exact .inl ⟨S',by simp [pE],⟨fs,v4,rfl,kp,hfs,r1,r2,r3 rfl,nd⟩⟩
   | true =>
    refine .inr ⟨S',by simp [pE],?_⟩
    have hl:zA6 S' k=some (cs.map Ct.d):=kp.lst (zCs hk) km
    obtain ⟨ρ2,S2,e2,fs2,g2,v4',rfl,kp2,hfs2,q1,q2,q3,q4,q5,nd2⟩:=zBd (w:=[(k,cs.map Ct.d)]) (g:=gN 4) (b:=zCn (cl n)) (items:=cs.map Ct.d)
     (PlL cs s k S fs) (ρ:=pE s k S.length false v4) (S:=S')
     (fun j ρ S2 hp=>by
      obtain ⟨_,_,_,_,kp⟩:=hp
      exact zCz (kp.lst (zCs hk) km))
     ⟨fs,false,v4,rfl,kp,hfs,fun x hx=>hx,r2,fun _=>⟨rfl,fun i c hi=>by omega⟩,(fun z=>by cases z),by omega,nd⟩
     (fun j d ρ S2 hd hp=>by
      obtain ⟨fs2,g2,v4,rfl,kp2,hf2,q1,q2,q3,q4,q5,nd2⟩:=hp
      rw [qA6] at hd
      obtain ⟨c,hcj,rfl⟩:=qA1.mp hd
      have hm:c∈cs:=qB9 hcj
      have hj:j<cs.length:=(qA5.mp hcj).1
      obtain ⟨ba,bb⟩:=hb c hm
      have he:(c.a,c.b)∈ends cs:=qA9.mpr ⟨c,hm,rfl⟩
      refine ⟨_,_,rfl,?_⟩
      have i1:=zMW hf2 false c.a
      have i2:=zMW hf2 false c.b
      have hlim:fs2.length+2<lim:=by have:=zE1; rw [zB0]; omega
      by_cases hne:(c.a∈fs2↔c.b∈fs2)
      ·refine ⟨_,S2,.inl ?_,⟨fs2,g2,some c.d,rfl,kp2,hf2,q1,q2,fun hg=>⟨(q3 hg).1,fun i c' hi hc'=>?_⟩,q4,by omega,nd2⟩⟩
       ·have:(decide (c.a∈fs2) != decide (c.b∈fs2))=false:=by simp [hne]
        simp [pE,zCn,Ct.d,i1,i2,this]
       ·by_cases hij:i=j
        ·subst hij; rw [hcj] at hc'; cases hc'
         rw [(q3 hg).1] at hne; exact hne
        ·exact (q3 hg).2 i c' (by omega) hc'
      ·have s1:=zPL hf2 (by omega) c.a
       have f3:(S2.set S.length (.dk (dkOf (addK fs2 c.a))))[S.length]?=some (.dk (dkOf (addK fs2 c.a))):=qD4 (qA5.mp hf2).1
       have s2:=zPL f3 (by have:=zJD fs2 c.a; omega) c.b
       have f4:((S2.set S.length (.dk (dkOf (addK fs2 c.a)))).set S.length (.dk (dkOf (addK (addK fs2 c.a) c.b))))[S.length]?=some (.dk (dkOf (addK (addK fs2 c.a) c.b))):=qD4 (qA5.mp f3).1
       have mem:∀ x,x∈addK (addK fs2 c.a) c.b↔x∈fs2∨x=c.a∨x=c.b:=fun x=>by rw [zN1,zN1,or_assoc]
       refine ⟨_,_,.inl ?_,⟨addK (addK fs2 c.a) c.b,true,some c.d,rfl,(kp2.trans (zHe _ _)).trans (zHe _ _),f4,fun x hx=>(mem x).mpr (.inl (q1 x hx)),fun C c0 cc x hx=>?_,(fun z=>by cases z),fun _=>?_,by have:=zJD fs2 c.a; have:=zJD (addK fs2 c.a) c.b; omega,zRd (zRd nd2 _) _⟩⟩
       ·have:(decide (c.a∈fs2) != decide (c.b∈fs2))=true:=by
         by_cases h1:c.a∈fs2 <;> by_cases h2:c.b∈fs2 <;> simp [h1,h2] at hne ⊢
        simp [pE,zCn,Ct.d,i1,i2,this,s1,s2]
       ·have ca:=q2 C c0 cc
        have hcc:=cc _ he
        dsimp only at hcc
        have one:C c.a∧C c.b:=by
         by_cases h1:c.a∈fs2
         ·exact ⟨ca _ h1,hcc.mp (ca _ h1)⟩
         ·by_cases h2:c.b∈fs2
          ·exact ⟨hcc.mpr (ca _ h2),ca _ h2⟩
          ·exact absurd (iff_of_false h1 h2) hne
        rcases (mem x).mp hx with z | z | z
        ·exact ca x z
        ·subst z; exact one.1
        ·subst z; exact one.2
       ·have lt:cntF 7 fs2<cntF 7 (addK (addK fs2 c.a) c.b):=by
         by_cases h1:c.a∈fs2
         ·have h2:c.b∉fs2:=fun z=>hne (iff_of_true h1 z)
          exact zQR (fun x hx=>(mem x).mpr (.inl hx)) ((mem c.b).mpr (.inr (.inr rfl))) h2 bb.1 bb.2
         ·exact zQR (fun x hx=>(mem x).mpr (.inl hx)) ((mem c.a).mpr (.inr (.inl rfl))) h1 ba.1 ba.2
        cases g2 with
        | true=>have:=q4 rfl; omega
        | false=>rw [(q3 rfl).1] at lt ⊢; exact lt)
    have c0:=zM8 7 fs
    have c1:=r4 rfl
    rw [qA2] at q5
    have step:zCo (cl n) (pE s k S.length true v4) S'=.nx (pE s k S.length g2 v4') S2:=by unfold pE at e2 ⊢; simp [zCo,hl,e2]
    cases g2 with
    | true =>
     have c2:=zM8 7 fs2
     have c3:=q4 rfl
     exact ⟨_,S2,.inl step,9 - cntF 7 fs2,by omega,⟨fs2,true,v4',rfl,kp2,hfs2,q1 s r1,q2,(fun z=>by cases z),fun _=>by omega,by omega,nd2⟩⟩
    | false =>
     refine ⟨_,S2,.inl step,0,by omega,⟨fs2,false,v4',rfl,kp2,hfs2,q1 s r1,q2,fun hg e he=>?_,(fun z=>by cases z),by omega,nd2⟩⟩
     obtain ⟨c,hc1,rfl⟩:=qA9.mp he
     obtain ⟨i,hi⟩:=qL7 hc1
     rw [(q3 hg).1]
     exact (q3 hg).2 i c (by rw [qA2]; exact (qA5.mp hi).1) hi)
  zLk (9 - cntF 7 [s]) (pE s k S.length true none) (S++[.dk (dkOf [s])]) (qG5 (qR9 _ _) (by decide))
   ⟨[s],true,none,rfl,Kp.refl _ _,by rw [qB6 (qB0 _),qJ6]; rfl,by simp,fun C c0 _ x hx=>(by simp at hx; subst hx; exact c0),(fun z=>by cases z),fun _=>(by have:=zM8 7 [s]; omega),by simp; omega,by simp⟩
 refine ⟨S.length,S',fs,?_,⟨?_,fun j hj _=>?_⟩,hfs,⟨r1,r3,fun C c0 cc x hx=>r2 C c0 cc x hx⟩,nd⟩
 ·rw [h]
  refine zAa rfl ?_
  have e0:(S++[O.dk [((Sum.inl s:Key),D.bl true)]])=S++[O.dk (dkOf [s])]:=rfl
  unfold pE at e
  simp [zCC,zAu,zER,e0,e]
 ·have:=kp.le; simp at this; omega
 ·rw [kp.eq j (by simp; omega) (by omega),qC1 hj]
theorem zH3 (h:zAC cl) (n:Nat) (cs:List Ct) (s:Int) (hs:0≤s∧s<7) (hc:cs.length≤100) (hb:∀ c∈cs,(0≤c.a∧c.a<7)∧0≤c.b∧c.b<7) {S:zA0}{k:Nat} (hk:zA6 S k=some (cs.map Ct.d)) :
  ∃ m S1 fs,cl (n+1) "places_from" [.int s,.lst k] S=.ok (.dct m) S1∧Ex S S1∧S1[m]?=some (.dk (dkOf fs))∧zEi (ends cs) s (·∈fs):=by
 obtain ⟨m,S1,fs,a,b,c,d,_⟩:=zKi h n cs s hs hc hb hk
 exact ⟨m,S1,fs,a,b,c,d⟩
noncomputable def jB (es:List (Int × Int)):Bool:=@decide (zLf es) (Classical.propDecidable _)
theorem zQ4 {es:List (Int × Int)}:jB es=true↔zLf es:=by
 exact @decide_eq_true_iff _ (Classical.propDecidable _)
theorem zaz {es:List (Int × Int)}{b:Bool} (h:b=true↔zLf es):b=jB es:=by
 cases b with
 | true=>exact (zQ4.mpr (h.mp rfl)).symm
 | false =>
  cases q:jB es with
  | false=>rfl
  | true=>exact absurd (h.mpr (zQ4.mp q)) qA7
def In7 (cs:List Ct):Prop:=∀ c∈cs,(0≤c.a∧c.a<7)∧0≤c.b∧c.b<7
theorem zNZ (h:zFw cl) (hp:zAC cl) (n:Nat) (cs:List Ct) (hc:cs.length≤100) (hb:In7 cs) {S:zA0}{k:Nat} (hk:zA6 S k=some (cs.map Ct.d)):Spc (cl (n+2) "joins" [.lst k] S) ((.bl (jB (ends cs)))) S:=by
 obtain ⟨m,S1,fs,e,x,hf,r⟩:=zH3 hp n cs 0 (by decide) hc hb hk
 refine ⟨S1,?_,x⟩
 rw [show n+2=(n+1)+1 from rfl,h]
 refine zAa rfl ?_
 have q:=zMW hf false 1
 have e2:decide ((1:Int)∈fs)=jB (ends cs):=zaz (by rw [decide_eq_true_eq]; exact r.joined)
 simp [zJB,zAu,e,q,e2]
theorem zRz {cs:List Ct}{st:List Int}{i:Nat} (h:i∈zCZ cs st):∃ c,cs[i]?=some c∧zAr c st=true:=by
 unfold zCZ at h
 obtain ⟨q,hq,rfl⟩:=qA9.mp h
 rw [qB2] at hq
 exact ⟨q.2,zFj hq.1,hq.2⟩
theorem zJZ (cs:List Ct) (st:List Int) (dflt:Ct):(zCZ cs st).map (fun i=>cs.getD i dflt)=cs.filter fun c=>zAr c st:=by
 unfold zCZ
 rw [qC0]
 have:((zCT cs).filter fun q=>zAr q.2 st).map ((fun i=>cs.getD i dflt)∘fun q=>q.1)=((zCT cs).filter fun q=>zAr q.2 st).map (·.2):=by
  refine qD5 fun q hq=>?_
  rw [qB2] at hq
  have:=zFj hq.1
  simp [qF5,this]
 rw [this]
 have h2:cs.filter (fun c=>zAr c st)=((zCT cs).map (·.2)).filter (fun c=>zAr c st):=by rw [zQz]
 rw [h2,qR5]
 rfl
noncomputable def zB2 (N:Net) (st:List Int):Bool:=jB (ends (N.cs.filter fun c=>zAr c st))
structure zaY (N:Net) (st:List Int):Prop where
 len:(st.length:Int)=N.sw
theorem Net.ok.ks {ms mp mc:Int}{N:Net} (h:N.ok ms mp mc) {st:List Int} (hs:zaY N st):∀ c∈N.cs,0≤c.k∧c.k<st.length:=fun c hc=>by
 obtain ⟨_,_,_,h4,h5,_,_⟩:=h.c2 c hc
 rw [hs.len]; exact ⟨h4,h5⟩
theorem Net.ok.in7 {ms mp mc:Int}{N:Net} (h:N.ok ms mp mc) (hm:mp≤7):In7 N.cs:=fun c hc=>by
 obtain ⟨h1,h2,h3,_⟩:=h.c2 c hc
 have:=h.p2
 omega
theorem In7.filter {cs:List Ct} (h:In7 cs) (p:Ct→Bool):In7 (cs.filter p):=fun c hc=>h c (qB2.mp hc).1
theorem Net.ok.len {ms mp mc:Int}{N:Net} (h:N.ok ms mp mc) (hm:mc≤16):N.cs.length≤100:=by have:=h.c1; omega
theorem zBT (h:zAK cl) (hi:zBs cl) (n:Nat) (N:Net) (st:List Int) (hc:N.cs.length≤100) (hk:∀ c∈N.cs,0≤c.k∧c.k<st.length) (S:zA0):cl (n+2) "shut_contacts" [N.d,zA4 st] S=.ok (.lst S.length) (S++[.lst ((N.cs.filter fun c=>zAr c st).map Ct.d)]):=by
 have e1:zAq [] .one (zCx (cl (n+1))) (zCy (cl (n+1))) [none,some (zA4 st)] (N.cs.map Ct.d) S=.ok ((N.cs.filter fun c=>zAr c st).map Ct.d) S:=by
  refine zBF Ct.d (zAp S) _ _ _ fun c hm=>⟨_,rfl,?_,fun _=>?_⟩
  ·have:=zGe hi n c st (hk _ hm).1 (hk _ hm).2 S
   simp [zCx,this]
  ·simp [zCy]
 rw [show n+2=(n+1)+1 from rfl,h]
 refine zAa rfl ?_
 have e4:N.cs.length<lim:=by have:=zE1; omega
 generalize (N.cs.filter fun c=>zAr c st).map Ct.d=F at e1
 simp [zC6,zAu,Net.d,e1,e4]
theorem zQ0 (h:zJF cl) (hj:zFw cl) (hp:zAC cl) (hs:zAK cl) (hi:zBs cl) (n:Nat) {N:Net}{st:List Int} (hc:N.cs.length≤100) (h7:In7 N.cs) (hk:∀ c∈N.cs,0≤c.k∧c.k<st.length) (S:zA0):Spc (cl (n+3) "lets" [N.d,zA4 st] S) ((.bl (zB2 N st))) S:=by
 have e1:=zBT hs hi n N st hc hk S
 have fl:(N.cs.filter fun c=>zAr c st).length≤100:=qC6 (qD9 _ _) hc
 obtain ⟨S2,e4,x2⟩:=zNZ hj hp n _ fl (h7.filter _) (zA3 S ((N.cs.filter fun c=>zAr c st).map Ct.d))
 refine ⟨S2,?_,(zA7 _ _).trans x2⟩
 rw [show n+3=(n+2)+1 from rfl,h]
 refine zAa rfl ?_
 simp [zNw,zAu,e1,e4,zB2]
@[simp] theorem zZ2 (w x y z:D):cutD [w,x,y,z] none (some 2)=[w,x]:=rfl
noncomputable def esOf (cs:List Ct) (l:List Nat):List (Int × Int):=l.map fun i=>((cs.getD i ⟨0,0,0,0⟩).a,(cs.getD i ⟨0,0,0,0⟩).b)
theorem zE9 (cs:List Ct) (st:List Int):esOf cs (zCZ cs st)=ends (cs.filter fun c=>zAr c st):=by
 unfold esOf ends
 rw [← zJZ cs st ⟨0,0,0,0⟩,qC0]
 rfl
noncomputable def sett:Nat→List (List Int)
 | 0=>[[]]
 | n+1=>(sett n).map (0::·)++(sett n).map (1::·)
theorem zBI:∀ n,(sett n).length=2 ^ n
 | 0=>rfl
 | n+1=>by unfold sett; rw [qC4,qA2,qA2,zBI n,Nat.pow_succ]; omega
theorem zAw:∀ n,∀ st∈sett n,st.length=n∧∀ b∈st,b=0∨b=1
 | 0,st,h=>by simp [sett] at h; subst h; simp
 | n+1,st,h=>by
  unfold sett at h
  rcases qD2.mp h with q | q
  ·obtain ⟨t,ht,rfl⟩:=qA9.mp q
   obtain ⟨h1,h2⟩:=zAw n t ht
   exact ⟨by simp [h1],fun b hb=>by rcases qB7.mp hb with z | z; exact .inl z; exact h2 b z⟩
  ·obtain ⟨t,ht,rfl⟩:=qA9.mp q
   obtain ⟨h1,h2⟩:=zAw n t ht
   exact ⟨by simp [h1],fun b hb=>by rcases qB7.mp hb with z | z; exact .inr z; exact h2 b z⟩
theorem zH1 {j:Nat} (h:j≤4):2 ^ j≤16:=qC6 (qL9 (by decide) h) (by decide)
theorem zBU (h:zCj cl) (n:Nat) {sw:Int} (h0:0≤sw) (h4:sw≤4) (S:zA0):∃ k S1,cl (n+1) "settings" [.int sw] S=.ok (.lst k) S1∧Ex S S1∧S.length≤k∧zA6 S1 k=some ((sett sw.toNat).map zA4):=by
 obtain ⟨ρ',S1,e1,k,v2,rfl,x1,hk,l1⟩:=zBd (w:=[]) (g:=gN 2) (b:=zEK (cl n)) (items:=upD 0 sw.toNat)
  (fun j ρ S'=>∃ k v2,ρ=[some (.int sw),some (.lst k),v2]∧Ex S S'∧S.length≤k∧zA6 S' k=some ((sett j).map zA4))
  (ρ:=[some (.int sw),some (.lst S.length),none]) (S:=S++[.lst [.tup []]])
  (fun j ρ S' hp=>zAp _) ⟨S.length,none,rfl,zA7 _ _,qB0 _,by rw [zA3]; rfl⟩
  (fun j d ρ S' hd hp=>by
   obtain ⟨k,v2,rfl,x1,hk,l1⟩:=hp
   rw [zEI] at hd
   have hj:j<sw.toNat:=hd.1
   have lj:(sett j).length≤16:=by rw [zBI]; exact zH1 (by omega)
   have comp:∀ (b:Int) (e:C) (he:∀ xs ρ S,e (some (.tup xs)::ρ) S=if 1+xs.length≤lim then .ok (.tup (.int b::xs)) S else .bad) (S2:zA0),zA6 S2 k=some ((sett j).map zA4)→zAq [(k,(sett j).map zA4)] .one (fun _=>ret true) e [none] ((sett j).map zA4) S2=.ok (((sett j).map (b::·)).map zA4) S2:=by
    intro b e he S2 l2
    rw [qC0]
    refine zCh zA4 (zCz l2) _ _ fun st hst=>⟨_,rfl,?_⟩
    have:=(zAw j st hst).1
    show e [some (zA4 st)] S2=_
    unfold zA4
    rw [he,if_pos (by rw [qA2,zB0]; omega)]
    rfl
   have c1:=comp 0 (zEM (cl n)) (fun xs ρ S=>by simp [zEM]) S' l1
   have l2:=(zA7 S' [.lst (((sett j).map (0::·)).map zA4)]).lst l1 (fun z=>z)
   have c2:=comp 1 (zEL (cl n)) (fun xs ρ S=>by simp [zEL]) (S'++[.lst (((sett j).map (0::·)).map zA4)]) l2
   generalize hA:S'++[O.lst (((sett j).map (0::·)).map zA4)]=A at c2 l2
   generalize hX0:((sett j).map (0::·)).map zA4=X0 at c1 hA
   generalize hX1:((sett j).map (1::·)).map zA4=X1 at c2
   have a1:zA6 (A++[.lst X1]) S'.length=some X0:=by rw [← hA]; exact zCs (zA3 _ _)
   have n0:X0.length≤16:=by rw [← hX0]; simpa using lj
   have n1:X1.length≤16:=by rw [← hX1]; simpa using lj
   have ad:=zJc a1 (zA3 A X1) (by rw [zB0]; omega)
   refine ⟨_,_,rfl,_,A++[.lst X1]++[.lst (X0++X1)],.inl ?_,(A++[O.lst X1]).length,some d,rfl,?_,?_,?_⟩
   ·have ll:((sett j).map zA4).length<lim:=by rw [qA2,zB0]; omega
    generalize hB:(sett j).map zA4=B at l1 l2 c1 c2 ll
    simp [zEK,l1,c1,hA,l2,c2,ll,ad]
   ·rw [← hA]; exact ((x1.trans (zA7 _ _)).trans (zA7 _ _)).trans (zA7 _ _)
   ·rw [← hA]; have:=x1.le; simp; omega
   ·rw [zA3,← hX0,← hX1,show sett (j+1)=(sett j).map (0::·)++(sett j).map (1::·) from rfl,qE4])
 rw [zBL] at l1
 refine ⟨k,S1,?_,x1,hk,l1⟩
 rw [h]
 refine zAa rfl ?_
 have f2:-4611686018427387904≤sw∧sw<4611686018427387904:=by omega
 simp [zEx,zAu,f2,e1]
theorem zNO {n:Nat} (h:0<n) (st:List Int):plain (n+1) (zA4 st)=true:=zC0 (zFH h st)
noncomputable def funP (N:Net):List Int:=(sett N.sw.toNat).map fun st=>if zB2 N st then 1 else 0
theorem zIr {sw:Int} (h4:sw≤4):((sett sw.toNat).map zA4).length<lim:=by rw [qA2,zBI,zB0]; have:=zH1 (j:=sw.toNat) (by omega); omega
theorem zDK (h:zD2 cl) (hle:zJF cl) (hj:zFw cl) (hp:zAC cl) (hs:zAK cl) (hi:zBs cl) (hse:zCj cl) (n:Nat) {N:Net} (w1:0≤N.sw) (w2:N.sw≤4) (hc:N.cs.length≤100) (h7:In7 N.cs) (hk:∀ c∈N.cs,0≤c.k∧c.k<N.sw) (S:zA0) :
  Spc (cl (n+4) "function_of" [N.d] S) ((zA4 (funP N))) S:=by
 obtain ⟨k,S1,e1,x1,_,l1⟩:=zBU hse (n+2) (sw:=N.sw) w1 w2 S
 obtain ⟨S2,e2,x2⟩:=zDl zA4 (w:=[(k,(sett N.sw.toNat).map zA4)]) (t:=.one) (c:=zD0 (cl (n+3))) (ρ0:=[none,some N.d]) (fun S'=>Ex S1 S') (fun S' x=>zCz (x.lst l1 fun z=>z)) (fun st=>.int (if zB2 N st then 1 else 0)) (sett N.sw.toNat) (Kp.refl _ _)
  (fun st hst S' x=>by
   have hl:=(zAw _ st hst).1
   obtain ⟨S3,e3,x3⟩:=zQ0 hle hj hp hs hi n hc h7 (st:=st) (fun c hc=>by have:=hk c hc; rw [hl]; omega) S'
   refine ⟨_,rfl,S3,?_,x.trans x3⟩
   cases hb:zB2 N st <;> simp [zD0,e3,hb])
 have e4:(sett N.sw.toNat).map (fun st=>D.int (if zB2 N st then 1 else 0))=(funP N).map D.int:=by unfold funP; rw [qC0]; rfl
 rw [e4] at e2
 refine ⟨_,?_,(x1.trans x2).trans (zA7 S2 [.lst ((funP N).map D.int)])⟩
 rw [show n+4=(n+3)+1 from rfl,h]
 refine zAa rfl ?_
 have ll:=zIr w2
 have t1:=zAg (zA3 S2 ((funP N).map D.int))
 have o0:oIx N.d (.int 0) S=.ok (.int N.sw) S:=by simp [Net.d]
 generalize (sett N.sw.toNat).map zA4=B at *
 simp [zCD,zAu,o0,e1,l1,ll,e2,t1,zA4]
noncomputable def zIC:D→Bool
 | .int _=>true
 | _=>false
def Scal (d:D):Prop:=(flat d).isSome=true
theorem zJm (h:zBM cl) (n:Nat) {d:D} (hd:Scal d) (S:zA0):cl (n+1) "is_whole" [d] S=.ok (.bl (zIC d)) S:=by
 rw [h]
 refine zAa rfl ?_
 cases d with
 | int i=>simp [zBR,zAu,zIC]
 | bl b=>simp [zBR,zAu,zIC]
 | non=>simp [zBR,zAu,zIC]
 | str x=>simp [zBR,zAu,zIC]
 | _=>cases hd
theorem zN7 (a:Int) (l:List Int):inV (.int a) (l.map V.int)=decide (a∈l):=by
 unfold inV
 induction l with
 | nil=>rfl
 | cons x r ih =>
  rw [qC5,qE9,ih]
  by_cases h:x=a
  ·subst h; simp [eqV]
  ·have h2:¬ a=x:=fun z=>h z.symm
   simp [eqV,h,h2]
theorem zII (l:List Int):(l.map D.int).mapM flat=some (l.map V.int):=by
 induction l with
 | nil=>rfl
 | cons x r ih=>rw [qC5,qF8,ih]; rfl
theorem zGG (neg:Bool) (a:Int) (l:List Int) (S:zA0):oIn neg (.int a) (.tup (l.map D.int)) S=.ok (.bl (if neg then !decide (a∈l) else decide (a∈l))) S:=by
 show (match (l.map D.int).mapM flat with | some vs=>R.ok (D.bl (if neg then !inV (.int a) vs else inV (.int a) vs)) S | none=>.bad)=_
 rw [zII]
 dsimp only
 rw [zN7]
@[simp] theorem zVM (w x y z:D):cutD [w,x,y,z] none (some 3)=[w,x,y]:=rfl
noncomputable def zD3 (l:List Int) (c:Ct):Ct:=if c.k∈l then ⟨c.a,c.b,c.k,1 - c.o⟩ else c
noncomputable def zE0 (l:List Int) (c:Ct):Ct:=⟨c.a,c.b,l.getD c.k.toNat 0,c.o⟩
theorem zEJ (h:zBr cl) (n:Nat) (c:Ct) (l:List Int) (S:zA0):cl (n+1) "turned_contact" [c.d,zA4 l] S=.ok (zD3 l c).d S:=by
 rw [h]
 refine zAa rfl ?_
 have q:=zGG false c.k l S
 have q4:(3:Nat)+1≤lim:=by decide
 by_cases hk:c.k∈l
 ·simp [zBa,zAu,Ct.d,zA4,q,hk,zD3,q4]
 ·simp [zBa,zAu,Ct.d,zA4,q,hk,zD3]
theorem zLl (h:zHU cl) (hc:zBr cl) (n:Nat) (N:Net) (hl:N.cs.length≤100) (l:List Int) (S:zA0):Spc (cl (n+2) "turned" [N.d,zA4 l] S) ((Net.d ⟨N.sw,N.pl,N.cs.map (zD3 l)⟩)) S:=by
 have e1:zAq [] .one (fun _=>ret true) (zGP (cl (n+1))) [none,some (zA4 l)] (N.cs.map Ct.d) S=.ok (N.cs.map fun c=>(zD3 l c).d) S:=by
  refine zCh Ct.d (zAp _) _ _ fun c _=>⟨_,rfl,?_⟩
  have:=zEJ hc n c l S
  simp [zGP,this]
 refine ⟨_,?_,zA7 S [.lst (N.cs.map fun c=>(zD3 l c).d)]⟩
 rw [show n+2=(n+1)+1 from rfl,h]
 refine zAa rfl ?_
 have hlim:N.cs.length<lim:=by rw [zB0]; omega
 have t1:=zAg (zA3 S (N.cs.map fun c=>(zD3 l c).d))
 have e3:(N.cs.map (zD3 l)).map Ct.d=N.cs.map fun c=>(zD3 l c).d:=by rw [qC0]; rfl
 generalize hB:N.cs.map (fun c=>(zD3 l c).d)=B at *
 simp [zGL,zAu,Net.d,e1,hlim,t1]
 rw [← e3,qC0]
theorem zFb (h:zBK cl) (n:Nat) (c:Ct) (l:List Int) (h0:0≤c.k) (h1:c.k<l.length) (S:zA0):cl (n+1) "named_contact" [c.d,zA4 l] S=.ok (zE0 l c).d S:=by
 rw [h]
 refine zAa rfl ?_
 simp [zC8,zAu,Ct.d,zA4,zGM h0 h1,zE0]
theorem zNU (h:zJE cl) (hc:zBK cl) (n:Nat) (N:Net) (hl:N.cs.length≤100) (l:List Int) (hk:∀ c∈N.cs,0≤c.k∧c.k<l.length) (S:zA0):Spc (cl (n+2) "named" [N.d,zA4 l] S) ((Net.d ⟨N.sw,N.pl,N.cs.map (zE0 l)⟩)) S:=by
 have e1:zAq [] .one (fun _=>ret true) (zJf (cl (n+1))) [none,some (zA4 l)] (N.cs.map Ct.d) S=.ok (N.cs.map fun c=>(zE0 l c).d) S:=by
  refine zCh Ct.d (zAp _) _ _ fun c hcm=>⟨_,rfl,?_⟩
  have:=zFb hc n c l (hk c hcm).1 (hk c hcm).2 S
  simp [zJf,this]
 refine ⟨_,?_,zA7 S [.lst (N.cs.map fun c=>(zE0 l c).d)]⟩
 rw [show n+2=(n+1)+1 from rfl,h]
 refine zAa rfl ?_
 have hlim:N.cs.length<lim:=by rw [zB0]; omega
 have t1:=zAg (zA3 S (N.cs.map fun c=>(zE0 l c).d))
 have e3:(N.cs.map (zE0 l)).map Ct.d=N.cs.map fun c=>(zE0 l c).d:=by rw [qC0]; rfl
 generalize hB:N.cs.map (fun c=>(zE0 l c).d)=B at *
 simp [zJA,zAu,Net.d,e1,hlim,t1]
 rw [← e3,qC0]
theorem zRG (i:Int):Scal (.int i):=rfl
theorem zJt {α:Type} (e:α→D) {w:zDv}{t:Tgt}{tc:CT}{c:C}{ρ0:Env1} (P:zA0→Prop) (Q:D→Prop) (hw:∀ S,P S→okW w S):∀ (l:List α) {S:zA0},P S →
  (∀ a∈l,∀ S,P S→∃ ρ1,zHK t (e a) ρ0=some ρ1∧∃ k S1,tc ρ1 S=.ok k S1∧(k=false→P S1)∧(k=true→∃ y S2,c ρ1 S1=.ok y S2∧P S2∧Q y))→∃ ys S',zAq w t tc c ρ0 (l.map e) S=.ok ys S'∧P S'∧(∀ y∈ys,Q y)∧ys.length≤l.length
 | [],S,h0,hs=>⟨[],S,by rw [qJ4]; unfold zAq; rw [if_pos (hw S h0)],h0,by simp,by simp⟩
 | d::ds,S,h0,hs=>by
  obtain ⟨ρ1,e1,k,S1,e2,hf,ht⟩:=hs d (by simp) S h0
  rw [qC5]
  unfold zAq
  rw [if_pos (hw S h0),e1]
  dsimp only
  rw [zBQ,e2,zAY]
  cases hp:k with
  | false =>
   obtain ⟨ys,S',e3,h3,h4,h5⟩:=zJt e P Q hw ds (hf hp) fun d' hd=>hs d' (by simp [hd])
   exact ⟨ys,S',by rw [if_neg qA7,e3],h3,h4,by simp; omega⟩
  | true =>
   obtain ⟨y,S2,e4,h4,q4⟩:=ht hp
   obtain ⟨ys,S',e3,h3,h5,h6⟩:=zJt e P Q hw ds h4 fun d' hd=>hs d' (by simp [hd])
   exact ⟨y::ys,S',by rw [if_pos rfl,zBQ,e4,zAY,zBQ,e3,zAY]; rfl,h3,fun z hz=>by rcases qB7.mp hz with rfl | hz; exact q4; exact h5 z hz,by simp; omega⟩
theorem zQf {R:Int→Prop}:∀ {ys:List D},(∀ y∈ys,∃ i,y=.int i∧R i)→∃ l:List Int,ys=l.map D.int∧∀ i∈l,R i
 | [],_=>⟨[],rfl,by simp⟩
 | y::ys,h=>by
  obtain ⟨i,rfl,hi⟩:=h y (by simp)
  obtain ⟨l,rfl,hl⟩:=zQf (R:=R) (ys:=ys) fun z hz=>h z (qD6 _ hz)
  exact ⟨i::l,rfl,fun j hj=>by rcases qB7.mp hj with rfl | hj; exact hi; exact hl j hj⟩
structure HD (cl:Nat→CLL):Prop where
 st:zEl cl
 ce:zCq cl
 ta:zBp cl
 en:zDI cl
 ne:zG6 cl
structure HF (cl:Nat→CLL):Prop where
 se:zCj cl
 is:zBs cl
 pf:zAC cl
 jo:zFw cl
 sc:zAK cl
 le:zJF cl
 fo:zD2 cl
theorem Net.ok.up {ms mp mc ms' mp' mc':Int}{N:Net} (h:N.ok ms mp mc) (h1:ms≤ms') (h2:mp≤mp') (h3:mc≤mc'):N.ok ms' mp' mc':=⟨h.s1,qK7 h.s2 h1,h.p1,qK7 h.p2 h2,qK7 h.c1 h3,h.c2⟩
abbrev Net.g (N:Net):Prop:=N.ok 4 7 16
theorem Net.ok.k2 {ms mp mc:Int}{N:Net} (h:N.ok ms mp mc):∀ c∈N.cs,0≤c.k∧c.k<N.sw:=fun c hc=>by obtain ⟨_,_,_,a,b,_⟩:=h.c2 c hc; exact ⟨a,b⟩
theorem HF.fun (F:HF cl) (n:Nat) {N:Net} (ok:N.g) (S:zA0):Spc (cl (n+4) "function_of" [N.d] S) ((zA4 (funP N))) S :=
 zDK F.fo F.le F.jo F.pf F.sc F.is F.se n (by have:=ok.s1; omega) ok.s2 (ok.len (by decide)) (ok.in7 (by decide)) ok.k2 S
theorem HF.setts (F:HF cl) (n:Nat) {N:Net} (ok:N.g) (S:zA0):∃ k S1,cl (n+1) "settings" [.int N.sw] S=.ok (.lst k) S1∧Ex S S1∧S.length≤k∧zA6 S1 k=some ((sett N.sw.toNat).map zA4) :=
 zBU F.se n (by have:=ok.s1; omega) ok.s2 S
theorem sett_len' {N:Net} (ok:N.g) {st:List Int} (h:st∈sett N.sw.toNat):(st.length:Int)=N.sw:=by
 have:=(zAw _ st h).1
 have:=ok.s1
 omega
noncomputable def b1 (b:Bool):Int:=if b then 1 else 0
open PySem L2
def kd (S:zA0) (d:D):Prop:=∃ t,zNX S d=some t
noncomputable def isI:D→Bool | .int _=>true | .bl _=>true | _=>false
noncomputable def isB:D→Bool | .bl _=>true | _=>false
noncomputable def isS:D→Bool | .str _=>true | _=>false
theorem zXJ (S:zA0) (i:Int):kd S (.int i):=⟨_,rfl⟩
theorem zT7 {S:zA0}{k:Nat} (h:kd S (.lst k)):zNX S (.lst k)=some "list":=by
 obtain ⟨t,h⟩:=h
 have h':(if (zA6 S k).isSome then some "list" else none)=some t:=h
 show (if (zA6 S k).isSome then some "list" else none)=_
 split at h'
 ·rename_i hh; rw [if_pos hh]
 ·cases h'
theorem zTl {S:zA0}{k:Nat} (h:kd S (.dct k)):zNX S (.dct k)=some "dict":=by
 obtain ⟨t,h⟩:=h
 have h':zM4 S k=some t:=h
 show zM4 S k=_
 unfold zM4 at h'
 split at h'
 ·rename_i kvs e
  unfold zM4
  rw [e]
 ·cases h'
theorem zFP {S:zA0}{x:D}{t T:String} (h:zNX S x=some t) (hT:T∈["bool","int","tuple","list","str","dict"]):zC3 [x,.ty T] S=.ok (.bl (kOf t T)) S:=by
 unfold zC3
 dsimp only
 rw [h]
 dsimp only
 rw [if_pos hT]
theorem zXN {S:zA0}{x:D} (h:kd S x):zC3 [x,.ty "int"] S=.ok (.bl (isI x)) S:=by
 cases x with
 | lst k=>rw [zFP (zT7 h) (by decide)]; rfl
 | dct k=>rw [zFP (zTl h) (by decide)]; rfl
 | ty k=>obtain ⟨t,h⟩:=h; cases h
 | rol k=>obtain ⟨t,h⟩:=h; cases h
 | cd _ _=>obtain ⟨t,h⟩:=h; cases h
 | _=>rw [zFP rfl (by decide)]; rfl
theorem zXO {S:zA0}{x:D} (h:kd S x):zC3 [x,.ty "bool"] S=.ok (.bl (isB x)) S:=by
 cases x with
 | lst k=>rw [zFP (zT7 h) (by decide)]; rfl
 | dct k=>rw [zFP (zTl h) (by decide)]; rfl
 | ty k=>obtain ⟨t,h⟩:=h; cases h
 | rol k=>obtain ⟨t,h⟩:=h; cases h
 | cd _ _=>obtain ⟨t,h⟩:=h; cases h
 | _=>rw [zFP rfl (by decide)]; rfl
noncomputable def isW:D→Bool
 | .int _=>true
 | _=>false
theorem zKs (h:zBM cl) (n:Nat) {S:zA0}{x:D} (hk:kd S x):cl (n+1) "is_whole" [x] S=.ok (.bl (isW x)) S:=by
 rw [h]
 refine zAa rfl ?_
 have e1:=zXN hk
 have e2:=zXO hk
 have z:isW x=(if isI x=true then !isB x else false):=by cases x <;> rfl
 rw [z]
 cases hb:isI x <;> cases hc:isB x <;> rw [hb] at e1 <;> rw [hc] at e2 <;> simp [zBR,zAu,e1,e2]
theorem zQP {w:zDv}{t:Tgt}{c:C}{ρ0:Env1} (P:List D→zA0→Prop) (hw:∀ l S,P l S→okW w S):∀ (items:List D) (acc:List D) {S:zA0},P acc S →
  (∀ d∈items,∀ acc S,P acc S→∃ ρ1,zHK t d ρ0=some ρ1∧∃ y S1,c ρ1 S=.ok y S1∧P (acc++[y]) S1)→∃ ds S',zAq w t (fun _=>ret true) c ρ0 items S=.ok ds S'∧ds.length=items.length∧P (acc++ds) S'
 | [],acc,S,h0,hs=>⟨[],S,by unfold zAq; rw [if_pos (hw _ S h0)],rfl,by rw [qJ9]; exact h0⟩
 | d::ds,acc,S,h0,hs=>by
  obtain ⟨ρ1,e1,y,S1,e2,p1⟩:=hs d (by simp) acc S h0
  obtain ⟨ys,S',e3,l3,h3⟩:=zQP P hw ds (acc++[y]) p1 fun d' hd=>hs d' (by simp [hd])
  unfold zAq
  rw [if_pos (hw _ S h0),e1]
  dsimp only
  rw [zBQ,zWD,zAY,if_pos rfl,zBQ,e2,zAY,zBQ,e3,zAY]
  exact ⟨y::ys,S',rfl,by rw [qD0,qD0,l3],by rw [qH4] at h3; exact h3⟩
end My
namespace Mt
def Conn (es:List (Int × Int)) (a b:Int):Prop:=∀ C:Int→Prop,C a→(∀ e∈es,(C e.1↔C e.2))→C b
theorem zEi.conn {es:List (Int × Int)}{s:Int}{F:Int→Prop} (h:zEi es s F) (x:Int):F x↔Conn es s x:=⟨fun f C c0 cc=>h.least C c0 cc x f,fun j=>j F h.start h.closed⟩
theorem Conn.symm {es:List (Int × Int)}{a b:Int} (h:Conn es a b):Conn es b a:=fun C cb cc=>Classical.byContradiction fun n=>h (fun x=>¬ C x) n (fun e he=>not_congr (cc e he)) cb
theorem zHA {es:List (Int × Int)}{a b:Int}:Conn es a b↔Conn es b a:=⟨Conn.symm,Conn.symm⟩
theorem zDj {es:List (Int × Int)}{a:Int}:Conn es a a:=fun _ c _=>c
noncomputable def cutV (v:Int) (x:Int):Int:=if x≤v then 0 else 1
theorem zVe {v A B:Int}:cutV v (if B<A then B else A)=if cutV v B<cutV v A then cutV v B else cutV v A:=by
 unfold cutV
 split <;> split <;> split <;> simp_all <;> omega
theorem zUQ {v:Int}{ms:List Int}{e:Int × Int} (h1:e.1.toNat<ms.length) (h2:e.2.toNat<ms.length):(mk1 ms e).map (cutV v)=mk1 (ms.map (cutV v)) e:=by
 have g:∀ i:Nat,i<ms.length→(ms.map (cutV v)).getD i 0=cutV v (ms.getD i 0):=fun i hi=>by simp [qF5,hi]
 unfold mk1
 dsimp only
 rw [List.map_set,List.map_set,g _ h1,g _ h2,← zVe]
theorem zLE {ms:List Int}{e:Int × Int}:(mk1 ms e).length=ms.length:=by unfold mk1; simp
theorem zJq (es:List (Int × Int)):∀ ms:List Int,(es.foldl mk1 ms).length=ms.length:=by
 induction es with
 | nil=>exact fun _=>rfl
 | cons e es ih=>intro ms; rw [qK0,ih,zLE]
theorem zNe {v:Int}{pl:Nat}:∀ (es:List (Int × Int)) (ms:List Int),ms.length=pl→(∀ e∈es,(0≤e.1∧e.1<pl)∧0≤e.2∧e.2<pl)→(es.foldl mk1 ms).map (cutV v)=es.foldl mk1 (ms.map (cutV v))
 | [],ms,_,_=>rfl
 | e::es,ms,hl,hb=>by
  have:=hb e (by simp)
  rw [qK0,qK0,zNe es (mk1 ms e) (by rw [zLE]; exact hl) fun e' he=>hb e' (by simp [he]),zUQ (by omega) (by omega)]
theorem zEp (es:List (Int × Int)):∀ (n:Nat) (ms:List Int),(zA9 es n ms).length=ms.length
 | 0,_=>rfl
 | n+1,ms=>by show (zA9 es n _).length=_; rw [zEp es n,zJq]
theorem zIs {v:Int}{pl:Nat}{es:List (Int × Int)} (hb:∀ e∈es,(0≤e.1∧e.1<pl)∧0≤e.2∧e.2<pl):∀ (n:Nat) (ms:List Int),ms.length=pl→(zA9 es n ms).map (cutV v)=zA9 es n (ms.map (cutV v))
 | 0,_,_=>rfl
 | n+1,ms,hl=>by
  show (zA9 es n _).map _=zA9 es n _
  rw [zIs hb n _ (by rw [zJq]; exact hl),zNe es ms hl hb]
noncomputable abbrev ups (pl:Nat):List Int:=(List.range pl).map fun (k:Nat)=>(k:Int)
theorem zFB (pl:Nat):(ups pl).length=pl:=by simp
theorem zIZ {pl i:Nat} (h:i<pl):(ups pl)[i]?=some (i:Int):=by simp [h]
theorem zK6 {pl:Nat}{es:List (Int × Int)} (hp:0<pl) (hb:∀ e∈es,(0≤e.1∧e.1<pl)∧0≤e.2∧e.2<pl) {e:Int × Int} (he:e∈es):(zA9 es pl (ups pl)).getD e.1.toNat 0=(zA9 es pl (ups pl)).getD e.2.toNat 0:=by
 have hl:=zEp es pl (ups pl)
 rw [zFB] at hl
 have hbe:=hb e he
 have key:∀ v:Int,0≤v→((zA9 es pl (ups pl)).getD e.1.toNat 0≤v↔(zA9 es pl (ups pl)).getD e.2.toNat 0≤v):=fun v v0=>by
  have m0:MOk pl ((ups pl).map (cutV v)):=⟨by simp,fun i x hx=>by
   rw [qA6] at hx
   obtain ⟨k,_,rfl⟩:=qA1.mp hx
   unfold cutV; split <;> decide⟩
  obtain ⟨g1,g2,g3,g4,g5⟩:=zF6 hb pl m0
  have cl:=g3.resolve_right fun z=>by
   have h1:=zMy pl (zA9 es pl ((ups pl).map (cutV v)))
   have h2:0<zFz pl ((ups pl).map (cutV v)):=by
    unfold zFz
    rw [qP2]
    intro hn
    have:(0:Nat)∈(List.range pl).filter fun i=>decide (((ups pl).map (cutV v))[i]?=some 0):=by
     rw [qB2]
     refine ⟨by simpa using hp,?_⟩
     rw [qA6,zIZ hp]
     simp [cutV,v0]
    rw [hn] at this
    cases this
   omega
  have c:=cl e he
  rw [← zIs hb pl _ (zFB pl)] at c
  have zi:∀ x:Int,0≤x→x<pl→(Z ((zA9 es pl (ups pl)).map (cutV v)) x↔(zA9 es pl (ups pl)).getD x.toNat 0≤v):=fun x x0 x1=>by
   unfold Z
   have hx:x.toNat<(zA9 es pl (ups pl)).length:=by omega
   rw [qA6,qA0 hx,qF5,qA0 hx]
   simp only [qO3,Option.some.injEq,Option.getD_some,x0,true_and]
   unfold cutV
   split <;> simp_all
  rw [zi _ hbe.1.1 hbe.1.2,zi _ hbe.2.1 hbe.2.2] at c
  exact c
 have po:∀ i:Nat,i<pl→0≤(zA9 es pl (ups pl)).getD i 0:=fun i hi=>by
  have m0:MOk pl (ups pl):=⟨by simp,fun i x hx=>by
   rw [qA6] at hx
   obtain ⟨k,_,rfl⟩:=qA1.mp hx
   omega⟩
  have g:=(zF6 hb pl m0).1
  have hi':i<(zA9 es pl (ups pl)).length:=by omega
  have:=g.pos i _ (qA0 hi')
  rw [qF5,qA0 hi']
  exact this
 have a1:=po e.1.toNat (by omega)
 have a2:=po e.2.toNat (by omega)
 exact qO4 ((key _ a2).mpr (qK4 _)) ((key _ a1).mp (qK4 _))
def Kin (es:List (Int × Int)) (ms:List Int):Prop:=∀ C:Int→Prop,(∀ e∈es,(C e.1↔C e.2))→∀ (i:Nat) x,ms[i]?=some x→(C x↔C (i:Int))
theorem zUV {es:List (Int × Int)}{pl:Nat}{ms:List Int} (hl:ms.length=pl) {e:Int × Int} (he:e∈es) (hb:(0≤e.1∧e.1<pl)∧0≤e.2∧e.2<pl) (h:Kin es ms):Kin es (mk1 ms e):=fun C cc i x hx=>by
 have la:e.1.toNat<ms.length:=by omega
 have lb:e.2.toNat<ms.length:=by omega
 have ea:ms[e.1.toNat]?=some (ms.getD e.1.toNat 0):=by rw [qF5,qA0 la]; rfl
 have eb:ms[e.2.toNat]?=some (ms.getD e.2.toNat 0):=by rw [qF5,qA0 lb]; rfl
 have ka:=h C cc _ _ ea
 have kb:=h C cc _ _ eb
 rw [qH9 hb.1.1] at ka
 rw [qH9 hb.2.1] at kb
 have ce:=cc e he
 have kl:C (if ms.getD e.2.toNat 0<ms.getD e.1.toNat 0 then ms.getD e.2.toNat 0 else ms.getD e.1.toNat 0)↔C e.1:=by
  split
  ·exact kb.trans ce.symm
  ·exact ka
 unfold mk1 at hx
 dsimp only at hx
 by_cases hib:i=e.2.toNat
 ·subst hib
  rw [qD4 (by simpa using lb)] at hx
  cases hx
  rw [qH9 hb.2.1]
  exact kl.trans ce
 ·rw [qD7 (fun z=>hib z.symm)] at hx
  by_cases hia:i=e.1.toNat
  ·subst hia
   rw [qD4 la] at hx
   cases hx
   rw [qH9 hb.1.1]
   exact kl
  ·rw [qD7 (fun z=>hia z.symm)] at hx
   exact h C cc i x hx
theorem zN2 {es:List (Int × Int)}{pl:Nat} (hb:∀ e∈es,(0≤e.1∧e.1<pl)∧0≤e.2∧e.2<pl):∀ (fs:List (Int × Int)) (ms:List Int),(∀ e∈fs,e∈es)→ms.length=pl→Kin es ms→Kin es (fs.foldl mk1 ms)
 | [],ms,_,_,h=>h
 | e::fs,ms,hs,hl,h=>zN2 hb fs (mk1 ms e) (fun e' he=>hs e' (by simp [he])) (by rw [zLE]; exact hl) (zUV hl (hs e (by simp)) (hb e (hs e (by simp))) h)
theorem zFO {es:List (Int × Int)}{pl:Nat} (hb:∀ e∈es,(0≤e.1∧e.1<pl)∧0≤e.2∧e.2<pl):∀ (n:Nat) (ms:List Int),ms.length=pl→Kin es ms→Kin es (zA9 es n ms)
 | 0,_,_,h=>h
 | n+1,ms,hl,h=>zFO hb n _ (by rw [zJq]; exact hl) (zN2 hb es ms (fun _ h=>h) hl h)
theorem zFM {pl:Nat}{es:List (Int × Int)} (hp:0<pl) (hb:∀ e∈es,(0≤e.1∧e.1<pl)∧0≤e.2∧e.2<pl) {a b:Nat} (ha:a<pl) (hb2:b<pl):(zA9 es pl (ups pl)).getD a 0=(zA9 es pl (ups pl)).getD b 0↔Conn es (a:Int) (b:Int):=by
 have hl:=zEp es pl (ups pl)
 rw [zFB] at hl
 have k:=zFO hb pl (ups pl) (zFB pl) (fun C _ i x hx=>by
  have hi:i<pl:=by have:=(qA5.mp hx).1; simpa using this
  rw [zIZ hi] at hx; cases hx; exact Iff.rfl)
 have ea:(zA9 es pl (ups pl))[a]?=some ((zA9 es pl (ups pl)).getD a 0):=by rw [qF5,qA0 (by omega)]; rfl
 have eb:(zA9 es pl (ups pl))[b]?=some ((zA9 es pl (ups pl)).getD b 0):=by rw [qF5,qA0 (by omega)]; rfl
 constructor
 ·intro e C ca cc
  have:=(k C cc a _ ea).mpr ca
  rw [e] at this
  exact (k C cc b _ eb).mp this
 ·intro c
  have:=c (fun x=>0≤x∧x<pl→(zA9 es pl (ups pl)).getD a 0=(zA9 es pl (ups pl)).getD x.toNat 0) (fun _=>by simp) fun e he=>by
   have hbe:=hb e he
   have q:=zK6 hp hb he
   rw [q]
   exact ⟨fun z _=>z hbe.1,fun z _=>z hbe.2⟩
  have:=this ⟨by omega,by omega⟩
  simpa using this
end Mt
namespace Mt
theorem zXA (ms:List Int) (e:Int × Int) (i:Nat):(mk1 ms e).getD i 0≤ms.getD i 0:=by
 have key:∀ (a b:Nat) (x:Int),x≤ms.getD a 0→x≤ms.getD b 0→((ms.set a x).set b x).getD i 0≤ms.getD i 0:=by
  intro a b x ha hb
  rcases Nat.lt_or_ge i ms.length with hi | hi
  ·simp only [qB3,qQ2,qI7] at ha hb ⊢
   by_cases h1:b=i
   ·subst h1
    simp only [if_true,hi]
    simpa using hb
   ·by_cases h2:a=i
    ·subst h2
     simp only [h1,if_false,if_true,hi]
     simpa using ha
    ·simp [h1,h2]
  ·rw [qB3,qF6 (by simpa using hi),qB3,qF6 hi]
   exact qK4 _
 unfold mk1
 dsimp only
 split
 ·exact key _ _ _ (by omega) (qK4 _)
 ·exact key _ _ _ (qK4 _) (by omega)
theorem zQs (i:Nat):∀ (es:List (Int × Int)) (ms:List Int),(es.foldl mk1 ms).getD i 0≤ms.getD i 0
 | [],_=>qK4 _
 | e::es,ms=>qK7 (zQs i es (mk1 ms e)) (zXA ms e i)
theorem zK5 (es:List (Int × Int)) (i:Nat):∀ (n:Nat) (ms:List Int),(zA9 es n ms).getD i 0≤ms.getD i 0
 | 0,_=>qK4 _
 | n+1,ms=>qK7 (zK5 es i n _) (zQs i es ms)
structure Mks (pl:Nat) (m:Nat→Nat):Prop where
 le:∀ a,a<pl→m a≤a
 idem:∀ a,a<pl→m (m a)=m a
theorem zHb {pl:Nat}{es:List (Int × Int)} (hp:0<pl) (hb:∀ e∈es,(0≤e.1∧e.1<pl)∧0≤e.2∧e.2<pl) :
  Mks pl (fun a=>((zA9 es pl (ups pl)).getD a 0).toNat)∧∀ a,a<pl→0≤(zA9 es pl (ups pl)).getD a 0:=by
 have hl:(zA9 es pl (ups pl)).length=pl:=by rw [zEp,zFB]
 have m0:=(zSd hp hb).1
 have pos:∀ a,a<pl→0≤(zA9 es pl (ups pl)).getD a 0:=fun a ha=>by
  have hi:a<(zA9 es pl (ups pl)).length:=by omega
  rw [qF5,qA0 hi]
  exact m0.pos a _ (qA0 hi)
 have le:∀ a,a<pl→(zA9 es pl (ups pl)).getD a 0≤(a:Int):=fun a ha=>by
  have:=zK5 es a pl (ups pl)
  rw [qB3 (l:=ups pl),zIZ ha] at this
  exact this
 refine ⟨⟨fun a ha=>by have:=le a ha; show Int.toNat _≤a; omega,fun a ha=>?_⟩,pos⟩
 have h1:=pos a ha
 have h2:=le a ha
 have hx:((zA9 es pl (ups pl)).getD a 0).toNat<pl:=by omega
 show ((zA9 es pl (ups pl)).getD ((zA9 es pl (ups pl)).getD a 0).toNat 0).toNat=((zA9 es pl (ups pl)).getD a 0).toNat
 rw [(zFM hp hb hx ha).mpr ?_]
 have k:=zFO hb pl (ups pl) (zFB pl) (fun C _ i x hx=>by
  have hi:i<pl:=by have:=(qA5.mp hx).1; simpa using this
  rw [zIZ hi] at hx; cases hx; exact Iff.rfl)
 refine Conn.symm fun C ca cc=>?_
 rw [show ((((zA9 es pl (ups pl)).getD a 0).toNat:Nat):Int)=(zA9 es pl (ups pl)).getD a 0 by omega]
 refine (k C cc a _ ?_).mpr ca
 rw [qF5,qA0 (by omega)]
 rfl
noncomputable def cls (pl:Nat) (m:Nat→Nat) (a:Nat):List Nat:=(List.range pl).filter fun b=>decide (m b=m a)
noncomputable def reps (pl:Nat) (m:Nat→Nat):List Nat:=(List.range pl).filter fun a=>decide (m a=a)
theorem zNp (pl:Nat) (m:Nat→Nat) (a:Nat):(cls pl m a).Pairwise (·<·):=List.Pairwise.filter _ qI3
theorem zLJ {l:List Nat}{x:Nat} (up:l.Pairwise (·<·)) (hx:x∈l) (le:∀ y∈l,x≤y):l[0]?=some x:=by
 cases l with
 | nil=>cases hx
 | cons y r =>
  rcases qB7.mp hx with rfl | h
  ·rfl
  ·have:=(qI2.mp up).1 x h
   have:=le y qF1
   omega
theorem zQS {pl:Nat}{m:Nat→Nat} (M:Mks pl m) {a:Nat} (ha:a<pl):(cls pl m a)[0]?=some (m a):=by
 have h1:=M.le a ha
 refine zLJ (zNp ..) (qB2.mpr ⟨qB5.mpr (by omega),by rw [decide_eq_true_eq]; exact M.idem a ha⟩) fun y hy=>?_
 obtain ⟨h2,h3⟩:=qB2.mp hy
 rw [decide_eq_true_eq] at h3
 rw [← h3]
 exact M.le y (qB5.mp h2)
end Mt
namespace Mt
theorem Conn.trans {es:List (Int × Int)}{a b c:Int} (h:Conn es a b) (k:Conn es b c):Conn es a c:=fun C ca cc=>k C (h C ca cc) cc
theorem zHz {es:List (Int × Int)}{e:Int × Int} (h:e∈es):Conn es e.1 e.2:=fun C ca cc=>(cc e h).mp ca
theorem Conn.more {es fs:List (Int × Int)} (h:∀ e∈es,e∈fs) {a b:Int} (k:Conn es a b):Conn fs a b:=fun C ca cc=>k C ca fun e he=>cc e (h e he)
theorem zKO {es fs:List (Int × Int)} (h:∀ e,e∈es↔e∈fs) {a b:Int}:Conn es a b↔Conn fs a b:=⟨Conn.more fun e=>(h e).mp,Conn.more fun e=>(h e).mpr⟩
theorem zHy {es:List (Int × Int)}{x:Int}{e:Int × Int} (h:e∈es):Conn es x e.1↔Conn es x e.2:=⟨fun k=>k.trans (zHz h),fun k=>k.trans (zHz h).symm⟩
theorem zDk {es:List (Int × Int)}{u v x y:Int}:Conn ((u,v)::es) x y↔Conn es x y∨(Conn es x u∧Conn es v y)∨(Conn es x v∧Conn es u y):=by
 have up:∀ {a b:Int},Conn es a b→Conn ((u,v)::es) a b:=fun k=>k.more fun e he=>qD6 _ he
 have uv:Conn ((u,v)::es) u v:=zHz (e:=(u,v)) (by simp)
 constructor
 ·intro h
  refine h (fun z=>Conn es x z∨(Conn es x u∧Conn es v z)∨(Conn es x v∧Conn es u z)) (.inl zDj) fun e he=>?_
  rcases qB7.mp he with rfl | he
  ·show (Conn es x u∨_∨_)↔(Conn es x v∨_∨_)
   constructor
   ·rintro (k | ⟨k,_⟩ | ⟨k,_⟩)
    ·exact .inr (.inl ⟨k,zDj⟩)
    ·exact .inr (.inl ⟨k,zDj⟩)
    ·exact .inl k
   ·rintro (k | ⟨k,_⟩ | ⟨k,_⟩)
    ·exact .inr (.inr ⟨k,zDj⟩)
    ·exact .inl k
    ·exact .inr (.inr ⟨k,zDj⟩)
  ·rw [zHy he,zHy he,zHy he]
 ·rintro (k | ⟨k,l⟩ | ⟨k,l⟩)
  ·exact up k
  ·exact ((up k).trans uv).trans (up l)
  ·exact ((up k).trans uv.symm).trans (up l)
structure Mk (pl:Nat) (es:List (Int × Int)) (m:Nat→Nat):Prop where
 ok:Mks pl m
 cn:∀ a b,a<pl→b<pl→(m b=m a↔Conn es (a:Int) (b:Int))
theorem Mk.lt {pl:Nat}{es:List (Int × Int)}{m:Nat→Nat} (M:Mk pl es m) {a:Nat} (h:a<pl):m a<pl:=qG5 (M.ok.le a h) h
theorem Mk.least {pl:Nat}{es:List (Int × Int)}{m:Nat→Nat} (M:Mk pl es m) {a:Nat} (h:a<pl):m a=a↔∀ b,b<pl→Conn es (a:Int) (b:Int)→a≤b:=by
 constructor
 ·intro e b hb k
  have:=(M.cn a b h hb).mpr k
  rw [← e,← this]
  exact M.ok.le b hb
 ·intro k
  have h1:=k (m a) (M.lt h) ((M.cn a (m a) h (M.lt h)).mp (M.ok.idem a h))
  exact qI8 (M.ok.le a h) h1
theorem zK7 {pl:Nat}{es fs:List (Int × Int)}{m k:Nat→Nat} (M:Mk pl es m) (K:Mk pl fs k) (h:∀ a b,a<pl→b<pl→(Conn es (a:Int) (b:Int)↔Conn fs (a:Int) (b:Int))):reps pl m=reps pl k:=by
 unfold reps
 refine qJ1 fun a ha=>?_
 have ha:=qB5.mp ha
 rw [decide_eq_decide,M.least ha,K.least ha]
 exact ⟨fun q b hb c=>q b hb ((h a b ha hb).mpr c),fun q b hb c=>q b hb ((h a b ha hb).mp c)⟩
theorem zM0 {l:List Nat} (nd:l.Nodup) {p:Nat→Bool}{x:Nat} (hx:x∈l) (px:p x=true):(l.filter fun a=>p a&&decide (a≠x)).length+1=(l.filter p).length:=by
 induction l with
 | nil=>cases hx
 | cons y r ih =>
  obtain ⟨n1,n2⟩:=qI5.mp nd
  rcases qB7.mp hx with rfl | h
  ·have e:(r.filter fun a=>p a&&decide (a≠x))=r.filter p:=qJ1 fun a ha=>by
    have:a≠x:=fun z=>n1 (z▸ha)
    simp [this]
   rw [qE0,qE0,if_pos px,if_neg (by simp),e,qD0]
  ·have ne:y≠x:=fun z=>n1 (z▸h)
   have:=ih n2 h
   by_cases py:p y=true
   ·rw [qE0,qE0,if_pos py,if_pos (by simp [py,ne]),qD0,qD0,this]
   ·rw [qE0,qE0,if_neg py,if_neg (by simp [py])]; exact this
theorem zK9 {pl:Nat}{es fs:List (Int × Int)}{m k:Nat→Nat} (M:Mk pl es m) (K:Mk pl fs k) {u v:Nat} (hu:u<pl) (hv:v<pl) (h:∀ a b,a<pl→b<pl→(Conn fs (a:Int) (b:Int)↔Conn (((u:Int),(v:Int))::es) (a:Int) (b:Int))) :
  (m u=m v→(reps pl k).length=(reps pl m).length)∧(m u≠m v→(reps pl k).length+1=(reps pl m).length):=by
 constructor
 ·intro e
  have uv:Conn es (u:Int) (v:Int):=(M.cn u v hu hv).mp e.symm
  refine congrArg qO6 (zK7 K M fun a b ha hb=>?_)
  rw [h a b ha hb,zDk]
  constructor
  ·rintro (q | ⟨q,r⟩ | ⟨q,r⟩)
   ·exact q
   ·exact (q.trans uv).trans r
   ·exact (q.trans uv.symm).trans r
  ·exact .inl
 ·-- w: the greater one of the two marks
  intro ne
  have main:∀ (u v:Nat),u<pl→v<pl→m u<m v→(∀ a b,a<pl→b<pl→(Conn fs (a:Int) (b:Int)↔Conn (((u:Int),(v:Int))::es) (a:Int) (b:Int)))→(reps pl k).length+1=(reps pl m).length:=by
   intro u v hu hv lt h
   have hmv:=M.lt hv
   have cmv:∀ {a:Nat},a<pl→Conn es ((m a:Nat):Int) (a:Int):=fun {a} ha=>((M.cn a (m a) ha (M.lt ha)).mp (M.ok.idem a ha)).symm
   have e:reps pl k=(List.range pl).filter fun a=>decide (m a=a)&&decide (a≠m v):=by
    unfold reps
    refine qJ1 fun a ha=>?_
    have ha:=qB5.mp ha
    rw [← Bool.decide_and,decide_eq_decide,K.least ha]
    constructor
    ·intro q
     refine ⟨(M.least ha).mpr fun b hb c=>q b hb ((h a b ha hb).mpr (zDk.mpr (.inl c))),fun z=>?_⟩
     have:=q (m u) (M.lt hu) ((h a (m u) ha (M.lt hu)).mpr (zDk.mpr (.inr (.inr ⟨by rw [z]; exact cmv hv,(cmv hu).symm⟩))))
     omega
    ·rintro ⟨q,z⟩ b hb c
     rcases zDk.mp ((h a b ha hb).mp c) with r | ⟨r,t⟩ | ⟨r,t⟩
     ·exact (M.least ha).mp q b hb r
     ·have e1:=(M.cn a u ha hu).mpr r
      have e2:=(M.cn v b hv hb).mpr t
      have:=M.ok.le b hb
      omega
     ·have e1:=(M.cn a v ha hv).mpr r
      exact absurd (by omega) z
   rw [e]
   exact zM0 qN5 (qB5.mpr hmv) (by rw [decide_eq_true_eq]; exact M.ok.idem v hv)
  rcases qP9 ne with q | q
  ·exact main u v hu hv q h
  ·refine main v u hv hu q fun a b ha hb=>(h a b ha hb).trans ?_
   rw [zDk,zDk]
   constructor
   ·rintro (q | q | q)
    ·exact .inl q
    ·exact .inr (.inr q)
    ·exact .inr (.inl q)
   ·rintro (q | q | q)
    ·exact .inl q
    ·exact .inr (.inr q)
    ·exact .inr (.inl q)
theorem zSI {a b:Int}:Conn [] a b↔a=b:=⟨fun h=>h (fun x=>a=x) rfl (fun e he=>by cases he),fun e=>by rw [e]; exact zDj⟩
theorem zaw {pl:Nat}{es:List (Int × Int)} (hp:0<pl) (hb:∀ e∈es,(0≤e.1∧e.1<pl)∧0≤e.2∧e.2<pl):∃ m,Mk pl es m:=by
 obtain ⟨h1,h2⟩:=zHb hp hb
 refine ⟨_,h1,fun a b ha hb2=>?_⟩
 have h:=zFM hp hb hb2 ha
 have p1:=h2 a ha
 have p2:=h2 b hb2
 rw [zHA,← h]
 constructor
 ·intro e; omega
 ·intro e; rw [e]
theorem zK8 {pl:Nat} (hp:0<pl):∀ (es:List (Int × Int)) (m:Nat→Nat),(∀ e∈es,(0≤e.1∧e.1<pl)∧0≤e.2∧e.2<pl)→Mk pl es m→pl≤es.length+(reps pl m).length
 | [],m,_,M=>by
  have e:reps pl m=List.range pl:=by
   unfold reps
   refine qM3.mpr fun a ha=>?_
   have ha:=qB5.mp ha
   rw [decide_eq_true_eq,M.least ha]
   intro b hb c
   have:=zSI.mp c
   omega
  rw [e]; simp
 | (u,v)::es,m,hb,M=>by
  have hb2:∀ e∈es,(0≤e.1∧e.1<pl)∧0≤e.2∧e.2<pl:=fun e he=>hb e (qD6 _ he)
  obtain ⟨k,K⟩:=zaw hp hb2
  have ih:=zK8 hp es k hb2 K
  obtain ⟨⟨u0,u1⟩,v0,v1⟩:=hb (u,v) (by simp)
  dsimp only at u0 u1 v0 v1
  obtain ⟨r1,r2⟩:=zK9 K M (u:=u.toNat) (v:=v.toNat) (by omega) (by omega) (fun a b _ _=>by
   rw [show ((u.toNat:Nat):Int)=u by omega,show ((v.toNat:Nat):Int)=v by omega])
  by_cases e:k u.toNat=k v.toNat
  ·have:=r1 e; simp; omega
  ·have:=r2 e; simp; omega
theorem zNm {α:Type}{l:List α} (nd:l.Nodup) {p q:α→Bool} (g:α→α) (inj:∀ x∈l,∀ y∈l,g x=g y→x=y) (h:∀ x∈l,p x=true→g x∈l∧q (g x)=true):(l.filter p).length≤(l.filter q).length:=by
 have n1:((l.filter p).map g).Nodup:=qH7.mpr ((nd.filter _).imp_of_mem fun {a b} ha hb ne e=>ne (inj a (qB2.mp ha).1 b (qB2.mp hb).1 e))
 have:=List.Nodup.length_le_of_subset n1 (l₂:=l.filter q) fun y hy=>by
  obtain ⟨x,hx,rfl⟩:=qA9.mp hy
  obtain ⟨h1,h2⟩:=qB2.mp hx
  exact qB2.mpr (h x h1 h2)
 simpa using this
theorem zJs {α:Type}{l:List α} (nd:l.Nodup) {p q:α→Bool} (g g':α→α) (h1:∀ x∈l,g x∈l∧g' (g x)=x) (h2:∀ x∈l,g' x∈l∧g (g' x)=x) (h:∀ x∈l,q (g x)=p x):(l.filter p).length=(l.filter q).length:=by
 refine qI8 (zNm nd g (fun x hx y hy e=>?_) fun x hx px=>⟨(h1 x hx).1,by rw [h x hx]; exact px⟩) (zNm nd g' (fun x hx y hy e=>?_) fun x hx qx=>⟨(h2 x hx).1,?_⟩)
 ·rw [← (h1 x hx).2,← (h1 y hy).2,e]
 ·rw [← (h2 x hx).2,← (h2 y hy).2,e]
 ·rw [← h _ (h2 x hx).1,(h2 x hx).2]; exact qx
theorem zOj {α:Type}{l:List α} (nd:l.Nodup) {p r:α→Bool} (g:α→α) (h1:∀ x∈l,g x∈l∧g (g x)=x) (hp:∀ x∈l,p (g x)=p x) (hr:∀ x∈l,r (g x)=!r x):(l.filter p).length % 2=0:=by
 have e:(l.filter p).length=(l.filter fun x=>p x&&r x).length+(l.filter fun x=>p x&&!r x).length:=by
  clear nd h1 hp hr
  induction l with
  | nil=>rfl
  | cons y t ih =>
   by_cases a:p y=true <;> by_cases b:r y=true <;> simp [qE0,a,b,ih] <;> omega
 have e2:(l.filter fun x=>p x&&r x).length=(l.filter fun x=>p x&&!r x).length:=zJs nd g g h1 h1 fun x hx=>by rw [hp x hx,hr x hx,Bool.not_not]
 omega
end Mt
namespace My
open PySem L2 Mt
variable {cl:Nat→CLL}
theorem zF3:∀ (n:Nat) (st:List Int),st.length=n→(∀ b∈st,b=0∨b=1)→st∈sett n
 | 0,st,h,_=>by have:=qI1.mp h; subst this; simp [sett]
 | n+1,[],h,_=>by simp at h
 | n+1,b::r,h,hb=>by
  have ih:=zF3 n r (by simpa using h) fun x hx=>hb x (by simp [hx])
  unfold sett
  rcases hb b (by simp) with rfl | rfl
  ·exact qH1 _ (qA9.mpr ⟨r,ih,rfl⟩)
  ·exact qD3 _ (qA9.mpr ⟨r,ih,rfl⟩)
noncomputable def zE5 (l st:List Int):List Int:=(zCT st).map fun q=>if ((q.1:Nat):Int)∈l then 1 - q.2 else q.2
theorem zQA {α:Type}{l:List α}{i:Nat} (h:i<l.length):(zCT l)[i]?=some (i,l[i]):=by
 unfold zCT
 rw [qD8]
 exact ⟨qC8 h,qA0 h⟩
theorem zBE (l st:List Int):(zE5 l st).length=st.length:=by unfold zE5; rw [qA2,zKJ]
theorem zE4 (l st:List Int) {i:Nat} (h:i<st.length):(zE5 l st).getD i 0=if ((i:Nat):Int)∈l then 1 - st.getD i 0 else st.getD i 0:=by
 unfold zE5
 rw [qB3,qA6,zQA h,qB3,qA0 h]
 rfl
theorem zO9 {l st:List Int} (h:∀ b∈st,b=0∨b=1):∀ b∈zE5 l st,b=0∨b=1:=by
 intro b hb
 unfold zE5 at hb
 obtain ⟨q,hq,rfl⟩:=qA9.mp hb
 have hm:=zFj hq
 have:=h q.2 (qB9 hm)
 split <;> omega
theorem zKp {sw pl sw' pl':Int}{cs:List Ct}{f:Ct→Ct}{st st':List Int} (h1:∀ c,(f c).a=c.a∧(f c).b=c.b) (h2:∀ c∈cs,zAr (f c) st'=zAr c st):zB2 ⟨sw',pl',cs.map f⟩ st'=zB2 ⟨sw,pl,cs⟩ st:=by
 unfold zB2
 have:ends ((cs.map f).filter fun c=>zAr c st')=ends (cs.filter fun c=>zAr c st):=by
  rw [qR5]
  unfold ends
  rw [qC0]
  have e1:cs.filter ((fun c=>zAr c st')∘f)=cs.filter fun c=>zAr c st:=qJ1 fun c hc=>h2 c hc
  rw [e1]
  refine qD5 fun c _=>?_
  show ((f c).a,(f c).b)=(c.a,c.b)
  rw [(h1 c).1,(h1 c).2]
 show jB _=jB _
 rw [this]
theorem zOP {sw pl:Int}{l st:List Int}{c:Ct} (h:c.ok sw pl) (hl:st.length=sw.toNat) (hb:∀ b∈st,b=0∨b=1):zAr (zD3 l c) (zE5 l st)=zAr c st:=by
 obtain ⟨_,_,_,k0,k1,o0,o1⟩:=h
 have hk:c.k.toNat<st.length:=by omega
 have ek:((c.k.toNat:Nat):Int)=c.k:=by omega
 have hg:=zE4 l st hk
 rw [ek] at hg
 have bit:st.getD c.k.toNat 0=0∨st.getD c.k.toNat 0=1:=by
  rw [qB3,qA0 hk]
  exact hb _ (qD1 hk)
 unfold zD3
 by_cases hm:c.k∈l
 ·rw [if_pos hm]
  rw [if_pos hm] at hg
  unfold zAr
  show decide ((zE5 l st).getD c.k.toNat 0=1 - c.o)=_
  rw [hg]
  refine decide_eq_decide.mpr ?_
  omega
 ·rw [if_neg hm]
  rw [if_neg hm] at hg
  unfold zAr
  rw [hg]
theorem zOS {sw pl:Int}{cs:List Ct}{l st:List Int} (h:∀ c∈cs,c.ok sw pl) (hl:st.length=sw.toNat) (hb:∀ b∈st,b=0∨b=1):zB2 ⟨sw,pl,cs.map (zD3 l)⟩ (zE5 l st)=zB2 ⟨sw,pl,cs⟩ st :=
 zKp (fun c=>by unfold zD3; split <;> exact ⟨rfl,rfl⟩) fun c hc=>zOP (h c hc) hl hb
theorem zPR {sw pl:Int}{cs:List Ct}{lo st m:List Int} (h:∀ c∈cs,c.ok sw pl) (hl:st.length=sw.toNat) (hm:∀ i,i<st.length→m.getD (lo.getD i 0).toNat 0=st.getD i 0):zB2 ⟨sw,pl,cs.map (zE0 lo)⟩ m=zB2 ⟨sw,pl,cs⟩ st :=
 zKp (fun c=>⟨rfl,rfl⟩) fun c hc=>by
  obtain ⟨_,_,_,k0,k1,_,_⟩:=h c hc
  unfold zAr zE0
  show decide (m.getD (lo.getD c.k.toNat 0).toNat 0=c.o)=_
  rw [hm c.k.toNat (by omega)]
noncomputable def exS (st:List Int) (k:Nat):List Int:=st.set k (1 - st.getD k 0)
theorem zKI {sw:Int} (s1:1≤sw) {st:List Int} (hs:st∈sett sw.toNat) {k:Nat} (hk:(k:Int)<sw):exS st k∈sett sw.toNat∧k<st.length:=by
 obtain ⟨a,b⟩:=zAw _ st hs
 have kl:k<st.length:=by omega
 refine ⟨zF3 _ _ (by unfold exS; rw [qI7]; exact a) fun x hx=>?_,kl⟩
 rcases List.mem_or_eq_of_mem_set hx with m | rfl
 ·exact b x m
 ·have:=b (st.getD k 0) (by rw [qB3,qA0 kl]; exact qD1 kl)
  omega
noncomputable def zCY (N:Net) (k:Nat):Nat:=((sett N.sw.toNat).filter fun st=>zB2 N st != zB2 N (exS st k)).length
noncomputable def zCc (N:Net) (m:Nat):List Int:=(List.range m).map fun k=>((zCY N k:Nat):Int)
theorem zD4:∀ n,(sett n).Nodup
 | 0=>by simp [sett]
 | n+1=>by
  unfold sett
  rw [qH6]
  have inj:∀ x:Int,((sett n).map (x::·)).Nodup:=fun x=>List.Pairwise.map (x::·) (fun a b h z=>h (qQ9.inj z).2) (zD4 n)
  refine ⟨inj 0,inj 1,fun a ha b hb=>?_⟩
  obtain ⟨x,_,rfl⟩:=qA9.mp ha
  obtain ⟨y,_,rfl⟩:=qA9.mp hb
  intro z
  exact absurd (qQ9.inj z).1 (by decide)
noncomputable def keyL (st:List Int):List Key:=st.map Sum.inl
theorem zN3 {a b:List Int} (h:keyL a=keyL b):a=b:=qK3 (f:=(Sum.inl:Int→Key)) (fun _ _ z=>Sum.inl.inj z) |>.mp h
theorem zKq (st:List Int):keyT (zA4 st)=some (keyL st):=by
 show (st.map D.int).mapM zER=some (st.map Sum.inl)
 induction st with
 | nil=>rfl
 | cons a r ih=>rw [qC5,qF8,ih]; rfl
theorem zSl (l:List (List Int)):(l.map zA4).mapM keyT=some (l.map keyL):=by
 induction l with
 | nil=>rfl
 | cons a r ih=>rw [qC5,qF8,ih,zKq]; rfl
theorem zUW (st:List Int):D.tup ((keyL st).map kD)=zA4 st:=by
 unfold keyL zA4
 rw [qC0]
 rfl
theorem zRM {kvs:List (List Key × D)}{k:List Key}{v:D} (h:∀ q∈kvs,q.1≠k):putD kvs k v=kvs++[(k,v)]:=by
 unfold putD
 rw [if_neg]
 intro z
 rw [qN6] at z
 obtain ⟨q,hq,e⟩:=z
 exact h q hq (of_decide_eq_true e)
theorem zNd (f:List Int→D):∀ (l:List (List Int)) (acc:List (List Key × D)),l.Nodup→(∀ q∈acc,∀ st∈l,q.1≠keyL st)→zHq acc (l.map fun st=>(keyL st,f st))=acc++l.map fun st=>(keyL st,f st)
 | [],acc,_,_=>by simp [zHq]
 | st::l,acc,nd,h=>by
  obtain ⟨n1,n2⟩:=qI5.mp nd
  have e:zHq acc ((st::l).map fun st=>(keyL st,f st))=zHq (putD acc (keyL st) (f st)) (l.map fun st=>(keyL st,f st)):=rfl
  rw [e,zRM fun q hq=>h q hq st (by simp),zNd f l _ n2 fun q hq s hs=>?_]
  ·simp
  ·rcases qD2.mp hq with m | m
   ·exact h q m s (by simp [hs])
   ·rw [qE6.mp m]
    intro z
    have:=zN3 z
    subst this
    exact n1 hs
theorem zLh {α β γ:Type} (f:α→β) (g:α→γ) (l:List α):(l.map f).zip (l.map g)=l.map fun x=>(f x,g x):=by
 induction l with
 | nil=>rfl
 | cons a r ih=>simp [ih]
theorem zON (f:List Int→D):∀ {l:List (List Int)}{st:List Int},st∈l→valD (l.map fun st=>(keyL st,f st)) (keyL st)=some (f st)
 | a::l,st,h=>by
  unfold valD
  rw [qC5,qE3]
  by_cases q:keyL a=keyL st
  ·have:=zN3 q
   subst this
   simp
  ·rw [decide_eq_false q]
   rcases qB7.mp h with rfl | h
   ·exact absurd rfl q
   ·exact zON f h
noncomputable def bitF (N:Net) (st:List Int):D:=.int (b1 (zB2 N st))
noncomputable def zHJ (N:Net):D:=.cd ((sett N.sw.toNat).map keyL) ((sett N.sw.toNat).map (bitF N))
theorem zUP (N:Net):mkCd (zHq [] (((sett N.sw.toNat).map keyL).zip ((funP N).map D.int)))=zHJ N:=by
 have e:(funP N).map D.int=(sett N.sw.toNat).map (bitF N):=by unfold funP; rw [qC0]; rfl
 rw [e,zLh,zNd (bitF N) _ [] (zD4 _) (fun q h=>by cases h)]
 unfold mkCd zHJ
 simp only [qK1,qC0]
 rfl
theorem zQ8 (N:Net) {st:List Int} (h:st∈sett N.sw.toNat) (S:zA0):oIx (zHJ N) (zA4 st) S=.ok (.int (b1 (zB2 N st))) S:=by
 have k:=zKq st
 have k':(st.map D.int).mapM zER=some (keyL st):=k
 show (match (st.map D.int).mapM zER with | some k=>(match valD (((sett N.sw.toNat).map keyL).zip ((sett N.sw.toNat).map (bitF N))) k with | some d=>R.ok d S | none=>.bad) | none=>.bad)=_
 rw [k']
 dsimp only
 rw [zLh,zON (bitF N) h]
 rfl
theorem zY3 (c:CLL) {X A C:List D}{k v:Int}{S:zA0} (a:cutD X none (some k)=A) (b:cutD X (some (k+1)) none=C) (i:atI X k=some (.int v)) (l1:A.length+1≤lim) (l2:A.length+1+C.length≤lim):zCP c [some (.tup X),some (.int k)] S=.rt (.tup (A++[.int (1 - v)]++C)) S:=by
 simp [zCP,a,b,i,l1,l2]
theorem zIc (h:zEn cl) (n:Nat) {st:List Int} (hl:st.length≤100) {k:Nat} (hk:k<st.length) (S:zA0):cl (n+1) "exchanged" [zA4 st,.int (k:Nat)] S=.ok (zA4 (exS st k)) S:=by
 have e:(st.map D.int).take k++[D.int (1 - st.getD k 0)]++(st.map D.int).drop (k+1)=(exS st k).map D.int:=by
  unfold exS
  rw [List.set_eq_take_append_cons_drop,if_pos hk]
  simp [qS0,qP4]
 rw [h]
 have li:=zE1
 have r:=zY3 (cl n) (X:=st.map D.int) (k:=(k:Nat)) (v:=st.getD k 0) (S:=S) (zKM _ (by omega)) (zKN _ (by omega)) (by have:=zGM (l:=st) (k:=(k:Nat)) (by omega) (by omega); simpa using this) (by simp; omega) (by simp; omega)
 have e2:((k:Nat)+1:Int).toNat=k+1:=by omega
 rw [qE8,e2,e] at r
 exact zAa rfl r
structure HSw (cl:Nat→CLL):Prop where
 f:HF cl
 ex:zEn cl
 tc:zEG cl
 us:zRf cl
theorem tc_t (c:CLL) {b sd xd:D}{k u v:Int}{S S1:zA0} (i1:oIx b sd S=.ok (.int u) S) (e:c "exchanged" [sd,.int k] S=.ok xd S1) (i2:oIx b xd S1=.ok (.int v) S1):zBw c [some sd,some b,some (.int k)] S=.ok (!decide (u=v)) S1:=by
 simp [zBw,i1,e,i2]
theorem tc_l (c:CLL) {nd b:D}{k:Int}{ks:List (List Key)}{vs:List D}{q:Nat}{R:List D}{L:Int}{S S1 S2 S3:zA0} (hb:b=.cd ks vs) (hl:(ks.map fun k=>D.tup (k.map kD)).length<lim) (e:zAq [] .one (zBw c) (zCm c) [none,some b,some (.int k)] (ks.map fun k=>D.tup (k.map kD)) S=.ok R S1) (h2:S1++[.lst R]=S2) (f:fLen [.lst S1.length] S2=.ok (.int L) S2) (t:∀ S',S'=S∨S'=S2→tyOk "list" (.lst q) S'=true) (m:zDz zC2 (.lst q) [.int L] S2=.ok .non S3) :
  zBx c [some nd,some b,some (.lst q),some (.int k)] S=.nx [some nd,some b,some (.lst q),some (.int k)] S3:=by
 subst hb
 have t1:=t S (.inl rfl)
 have hl':ks.length<lim:=by simpa using hl
 simp [zBx,t1,hl',e,h2,f,m]
theorem zVD {S:zA0}{n:Nat}{ys:List D}{x:D} (h:zA6 S n=some ys) (hl:ys.length<lim):zDz zC2 (.lst n) [x] S=.ok .non (S.set n (.lst (ys++[x]))):=by
 rw [zEq h,zIG,if_pos hl]
inductive TcI (nd b:D) (N:Net) (q:Nat) (S0:zA0) (j:Nat) (ρ:Env1) (S:zA0):Prop
 | mk (w3:Option D) (e:ρ=[some nd,some b,some (.lst q),w3]) (x:Kp (·=q) S0 S) (l:zA6 S q=some ((zCc N j).map D.int))
theorem zNC (N:Net) (j:Nat):zCc N (j+1)=zCc N j++[((zCY N j:Nat):Int)]:=by unfold zCc; rw [qM1,qE4]; rfl
theorem zJM (N:Net) (j:Nat):(zCc N j).length=j:=by unfold zCc; simp
theorem zVZ (c:CLL) {nd b td:D}{sw:Int}{k:Nat}{ks0 vs0:List D}{kks:List (List Key)}{w3:Option D}{S S1 S2 S3 S4:zA0} (i0:∀ S,oIx nd (.int 0) S=.ok (.int sw) S) (e1:c "settings" [.int sw] S=.ok (.lst k) S1) (e2:c "function_of" [nd] S1=.ok (.tup vs0) S2) (l2:zA6 S2 k=some ks0) (hk:ks0.mapM keyT=some kks) (hl:kks.length≤lim) (hb:mkCd (zHq [] (kks.zip vs0))=b)
  (h3:S2++[.lst []]=S3) (b1:(-4611686018427387904:Int)≤sw) (b2:sw<4611686018427387904) (e4:zBC [] (gN 3) (zBx c) (upD 0 sw.toNat) [some nd,some b,some (.lst S2.length),none] S3=.nx [some nd,some b,some (.lst S2.length),w3] S4) (t:zAh [.lst S2.length] S4=.ok td S4) :
  zC5 c [some nd,none,none,none] S=.rt td S4:=by
 have z:zFo (zA1 [(cApp (c "settings") (zA1 [(cBin oIx (cVar 0) (cCon (.int 0)))])),(cApp (c "function_of") (zA1 [(cVar 0)]))]) [some nd,none,none,none] S=.ok b S2:=by
  unfold zFo
  simp [i0,e1,e2,sq2,l2,hk,hl,hb]
 simp [zC5,z,i0,h3,b1,b2,e4,t]
theorem zBH (H:HSw cl) (n:Nat) {N:Net} (ok:N.g) (S:zA0):Spc (cl (n+5) "turn_counts" [N.d] S) (zA4 (zCc N N.sw.toNat)) S:=by
 have s1:=ok.s1
 have s2:=ok.s2
 obtain ⟨k,S1,e1,x1,_,l1⟩:=H.f.setts (n+3) ok S
 obtain ⟨S2,e2,x2⟩:=H.f.fun n ok S1
 have l2:=x2.lst l1 fun z=>z
 obtain ⟨S3,h3⟩:∃ S3,S2++[.lst []]=S3:=⟨_,rfl⟩
 have x3:Ex S2 S3:=h3▸zA7 _ _
 have l3:zA6 S3 S2.length=some []:=h3▸zA3 _ _
 have sl:(sett N.sw.toNat).length≤16:=by rw [zBI]; exact zH1 (by omega)
 have li:=zE1
 obtain ⟨ρ',S4,e4,w3,rfl,x4,l4⟩:=zBd (w:=[]) (g:=gN 3) (b:=zBx (cl (n+4))) (items:=upD 0 N.sw.toNat) (TcI N.d (zHJ N) N S2.length S3) (ρ:=[some N.d,some (zHJ N),some (.lst S2.length),none]) (S:=S3)
  (fun _ _ _ _=>zAp _) ⟨none,rfl,Kp.refl _ _,l3⟩
  (fun j d ρ S' hd hp=>by
   obtain ⟨w3,rfl,x,l⟩:=hp
   rw [zEI] at hd
   obtain ⟨hj,rfl⟩:=hd
   rw [qK8]
   refine ⟨[some N.d,some (zHJ N),some (.lst S2.length),some (.int (j:Nat))],S',rfl,?_⟩
   have e5:zAq [] .one (zBw (cl (n+4))) (zCm (cl (n+4))) [none,some (zHJ N),some (.int (j:Nat))] ((sett N.sw.toNat).map zA4) S'=.ok (((sett N.sw.toNat).filter fun st=>zB2 N st != zB2 N (exS st j)).map zA4) S' :=
    zBF zA4 (zAp S') _ _ _ fun st hst=>by
     obtain ⟨m,kl⟩:=zKI (k:=j) ok.s1 hst (by omega)
     have el:=(zAw _ st hst).1
     refine ⟨_,rfl,?_,fun _=>by simp [zCm]⟩
     have r:=tc_t (cl (n+4)) (zQ8 N hst S') (zIc H.ex (n+3) (st:=st) (by omega) kl S') (zQ8 N m S')
     rw [show (!decide (b1 (zB2 N st)=b1 (zB2 N (exS st j))))=(zB2 N st != zB2 N (exS st j)) by cases zB2 N st <;> cases zB2 N (exS st j) <;> rfl] at r
     exact r
   have ke:((sett N.sw.toNat).map keyL).map (fun k=>D.tup (k.map kD))=(sett N.sw.toNat).map zA4:=by
    rw [qC0]
    exact qD5 fun st _=>zUW st
   rw [← ke] at e5
   have f5:=zDD (zA3 S' (((sett N.sw.toNat).filter fun st=>zB2 N st != zB2 N (exS st j)).map zA4))
   rw [qA2] at f5
   have l5:=zCs (T:=[.lst (((sett N.sw.toNat).filter fun st=>zB2 N st != zB2 N (exS st j)).map zA4)]) l
   have m5:=zVD (x:=.int ((zCY N j:Nat):Int)) l5 (by rw [qA2,zJM]; omega)
   refine ⟨_,_,.inl (tc_l (cl (n+4)) rfl (by rw [qA2,qA2]; omega) e5 rfl f5 (fun S'' hS=>?_) m5),?_⟩
   ·rcases hS with rfl | rfl
    ·exact zCl l
    ·exact zCl l5
   ·refine ⟨_,rfl,x.trans ((Ex.kp (zA7 _ _)).trans (zHe _ _)),?_⟩
    rw [zC1 l5,zNC,qE4]
    rfl)
 rw [zBL] at l4
 refine ⟨S4,?_,(x1.trans x2).trans ?_⟩
 ·rw [show n+5=(n+4)+1 from rfl,H.tc]
  exact zAa rfl (zVZ (cl (n+4)) (fun S=>by rw [Net.d]; simp) e1 e2 l2 (zSl _) (by rw [qA2]; omega) (zUP N) h3 (by omega) (by omega) e4 (zAg l4))
 ·exact ((Ex.kp x3).trans x4).mono fun j hj e=>by omega
noncomputable def zEy (N:Net):List Nat:=(List.range N.sw.toNat).filter fun k=>decide (0<zCY N k)
theorem zVQ (c:CLL) {nd td:D}{X R:List D}{S S1:zA0} (e:c "turn_counts" [nd] S=.ok (.tup X) S1) (hl:(zEW X).length<lim) (e2:zAq [] (.many 2) (zIX c) (zIY c) [none,none] (zEW X) S1=.ok R S1) (t:zAh [.lst S1.length] (S1++[.lst R])=.ok td (S1++[.lst R])):zLb c [some nd] S=.rt td (S1++[.lst R]):=by
 simp [zLb,e,hl,e2,t]
theorem zM2 {α:Type} (f:Nat→α) (m:Nat):zCT ((List.range m).map f)=(List.range m).map fun k=>(k,f k):=by
 unfold zCT
 rw [qA2,qF3]
 have:=zLh (fun k:Nat=>k) f (List.range m)
 rw [List.map_id'] at this
 exact this
theorem zJL (H:HSw cl) (n:Nat) {N:Net} (ok:N.g) (S:zA0):Spc (cl (n+6) "used" [N.d] S) (.tup (zBk (zEy N))) S:=by
 have s2:=ok.s2
 obtain ⟨S1,e1,x1⟩:=zBH H n ok S
 have li:=zE1
 have ee:zEW ((zCc N N.sw.toNat).map D.int)=(List.range N.sw.toNat).map fun k=>D.tup [.int (k:Nat),.int ((zCY N k:Nat):Int)]:=by
  rw [zKK]
  unfold zCc
  rw [zM2,qC0]
  rfl
 have e2:zAq [] (.many 2) (zIX (cl (n+5))) (zIY (cl (n+5))) [none,none] ((List.range N.sw.toNat).map fun k=>D.tup [.int (k:Nat),.int ((zCY N k:Nat):Int)]) S1=.ok ((zEy N).map fun (k:Nat)=>D.int (k:Nat)) S1:=by
  refine zBF (fun k:Nat=>D.tup [.int (k:Nat),.int ((zCY N k:Nat):Int)]) (zAp S1) _ _ _ fun k _=>⟨_,rfl,?_,fun _=>by simp [zIY,zGU]⟩
  simp [zIX,zGU]
 rw [← ee] at e2
 refine ⟨_,?_,x1.trans (zA7 S1 [.lst (zBk (zEy N))])⟩
 rw [show n+6=(n+5)+1 from rfl,H.us]
 exact zAa rfl (zVQ (cl (n+5)) e1 (by rw [ee,qA2,qF3]; omega) e2 (zAg (zA3 _ _)))
theorem zSf {lo:List Int}{sw:Int} (hp:lo.Perm ((List.range sw.toNat).map fun (k:Nat)=>(k:Int))):lo.length=sw.toNat∧(∀ i,i<lo.length→0≤lo.getD i 0∧lo.getD i 0<sw)∧(∀ i j,i<j→j<lo.length→(lo.getD i 0).toNat≠(lo.getD j 0).toNat):=by
 have hl:lo.length=sw.toNat:=by rw [hp.length_eq]; simp
 have hd:lo.Nodup:=by
  rw [hp.nodup_iff]
  exact qH7.mpr (qN5.imp fun h e=>h (Int.ofNat.inj e))
 have hg:∀ i (h:i<lo.length),lo.getD i 0=lo[i]:=fun i h=>by rw [qB3,qA0 h]; rfl
 have hb:∀ i,i<lo.length→0≤lo.getD i 0∧lo.getD i 0<sw:=fun i h=>by
  rw [hg i h]
  have:=hp.mem_iff.mp (qD1 h)
  obtain ⟨k,hk,e⟩:=qA9.mp this
  have:=qB5.mp hk
  rw [← e]
  omega
 refine ⟨hl,hb,fun i j hij hj e=>?_⟩
 have h1:=hb i (by omega)
 have h2:=hb j hj
 have e':lo.getD i 0=lo.getD j 0:=by omega
 rw [hg i (by omega),hg j hj] at e'
 exact qN0.mp hd i j (by omega) hj hij e'
theorem zSA (st:List Int) {k i:Nat}{x:Int} (hi:i<st.length):(st.set k x).getD i 0=if k=i then x else st.getD i 0:=by
 rw [qB3,qQ2]
 by_cases h:k=i
 ·subst h; rw [if_pos rfl,if_pos hi,if_pos rfl]; rfl
 ·rw [if_neg h,if_neg h,qB3]
theorem zEu {a b:List Int} (hl:a.length=b.length) (h:∀ i,i<a.length→a.getD i 0=b.getD i 0):a=b:=by
 refine qL4 hl fun i h1 h2=>?_
 have:=h i h1
 rw [qB3,qA0 h1,qB3,qA0 h2] at this
 exact this
theorem zCf (st:List Int) (k:Nat):(exS st k).length=st.length:=by unfold exS; rw [qI7]
theorem zE8 (st:List Int) (k:Nat) {i:Nat} (hi:i<st.length):(exS st k).getD i 0=if k=i then 1 - st.getD i 0 else st.getD i 0:=by
 unfold exS
 rw [zSA st hi]
 by_cases h:k=i
 ·subst h; rfl
 ·rw [if_neg h,if_neg h]
theorem zKH (st:List Int) (k:Nat):exS (exS st k) k=st:=zEu (by rw [zCf,zCf]) fun i hi=>by
 rw [zCf,zCf] at hi
 rw [zE8 _ _ (by rw [zCf]; exact hi),zE8 _ _ hi]
 split <;> omega
theorem zOT {N:Net} (ok:N.g) {k:Nat} (hk:(k:Int)<N.sw):zCY N k % 2=0:=by
 unfold zCY
 refine zOj (zD4 _) (r:=fun st=>decide (st.getD k 0=0)) (fun st=>exS st k) (fun st hs=>⟨(zKI ok.s1 hs hk).1,zKH st k⟩) (fun st hs=>?_) fun st hs=>?_
 ·skip
  rw [zKH,bne_comm]
 ·have kl:=(zKI ok.s1 hs hk).2
  have b:=(zAw _ st hs).2 (st.getD k 0) (by rw [qB3,qA0 kl]; exact qD1 kl)
  rw [zE8 _ _ kl,if_pos rfl]
  rcases b with e | e <;> rw [e] <;> rfl
theorem zOQ {N:Net} (ok:N.g) {k:Nat} (hk:(k:Int)<N.sw) (h:∀ c∈N.cs,c.k≠(k:Int)):zCY N k=0:=by
 unfold zCY
 rw [qI1,qG2]
 intro st hs
 have e:zB2 N (exS st k)=zB2 N st:=by
  unfold zB2
  rw [show (N.cs.filter fun c=>zAr c (exS st k))=N.cs.filter fun c=>zAr c st from qJ1 fun c hc=>?_]
  obtain ⟨_,_,_,k0,k1,_,_⟩:=ok.c2 c hc
  have sl:=(zAw _ st hs).1
  unfold zAr
  rw [zE8 _ _ (by omega),if_neg (by have:=h c hc; omega)]
 rw [e]
 simp
theorem zIH (l st:List Int):zE5 l (zE5 l st)=st:=zEu (by rw [zBE,zBE]) fun i hi=>by
 rw [zBE,zBE] at hi
 rw [zE4 _ _ (by rw [zBE]; exact hi),zE4 _ _ hi]
 split <;> omega
theorem zV5 (l st:List Int) {k:Nat}:exS (zE5 l st) k=zE5 l (exS st k):=zEu (by rw [zCf,zBE,zBE,zCf]) fun i hi=>by
 rw [zCf,zBE] at hi
 rw [zE8 _ _ (by rw [zBE]; exact hi),zE4 _ _ hi,zE4 _ _ (by rw [zCf]; exact hi),zE8 _ _ hi]
 by_cases h:k=i
 ·subst h; simp only [if_true]; split <;> omega
 ·simp only [if_neg h]
theorem zKD {n:Nat} (l:List Int) {st:List Int} (h:st∈sett n):zE5 l st∈sett n:=by
 obtain ⟨a,b⟩:=zAw _ st h
 exact zF3 _ _ (by rw [zBE]; exact a) (zO9 b)
theorem zLm {N:Net} (ok:N.g) (l:List Int) {k:Nat} (hk:(k:Int)<N.sw):zCY ⟨N.sw,N.pl,N.cs.map (zD3 l)⟩ k=zCY N k:=by
 unfold zCY
 have tl:∀ st∈sett N.sw.toNat,zB2 ⟨N.sw,N.pl,N.cs.map (zD3 l)⟩ (zE5 l st)=zB2 N st:=fun st hs=>by
  obtain ⟨a,b⟩:=zAw _ st hs
  exact zOS ok.c2 a b
 refine (zJs (zD4 _) (zE5 l) (zE5 l) (fun st h=>⟨zKD l h,zIH l st⟩) (fun st h=>⟨zKD l h,zIH l st⟩) fun st h=>?_).symm
 rw [zV5,tl st h,tl _ (zKI ok.s1 h hk).1]
noncomputable def outS (lo m:List Int):List Int:=(List.range m.length).map fun i=>m.getD (lo.getD i 0).toNat 0
noncomputable def zKw (lo st:List Int):List Int:=(List.range st.length).map fun j=>st.getD (lo.idxOf ((j:Nat):Int)) 0
theorem zBJ (lo m:List Int):(outS lo m).length=m.length:=by unfold outS; simp
theorem zDg (lo m:List Int):(zKw lo m).length=m.length:=by unfold zKw; simp
theorem zF9 (lo m:List Int) {i:Nat} (h:i<m.length):(outS lo m).getD i 0=m.getD (lo.getD i 0).toNat 0:=by
 unfold outS
 rw [qB3,qA6,qC8 h]; rfl
theorem zKv (lo st:List Int) {j:Nat} (h:j<st.length):(zKw lo st).getD j 0=st.getD (lo.idxOf ((j:Nat):Int)) 0:=by
 unfold zKw
 rw [qB3,qA6,qC8 h]; rfl
structure Ord (n:Nat) (lo:List Int):Prop where
 len:lo.length=n
 rg:∀ i,i<n→0≤lo.getD i 0∧lo.getD i 0<(n:Int)
 inj:∀ i j,i<n→j<n→lo.getD i 0=lo.getD j 0→i=j
 onto:∀ j:Nat,j<n→lo.idxOf ((j:Nat):Int)<n∧lo.getD (lo.idxOf ((j:Nat):Int)) 0=(j:Int)
theorem zXc {lo:List Int}{sw:Int} (s0:0≤sw) (hp:lo.Perm ((List.range sw.toNat).map fun (k:Nat)=>(k:Int))):Ord sw.toNat lo:=by
 obtain ⟨a,b,c⟩:=zSf hp
 refine ⟨a,fun i hi=>by have:=b i (by omega); omega,fun i j hi hj e=>?_,fun j hj=>?_⟩
 ·rcases qQ3 i j with h | h | h
  ·exact absurd (by rw [e]) (c i j h (by omega))
  ·exact h
  ·exact absurd (by rw [e]) (c j i h (by omega))
 ·have hm:((j:Nat):Int)∈lo:=hp.mem_iff.mpr (qA9.mpr ⟨j,qB5.mpr hj,rfl⟩)
  have hl:=List.idxOf_lt_length_of_mem hm
  refine ⟨by omega,?_⟩
  rw [qB3,qA0 hl]
  exact List.getElem_idxOf hl
theorem zNa {n:Nat}{st:List Int} (h:st∈sett n) {i:Nat} (hi:i<n):st.getD i 0=0∨st.getD i 0=1:=by
 obtain ⟨a,b⟩:=zAw _ st h
 have:i<st.length:=by omega
 exact b _ (by rw [qB3,qA0 this]; exact qD1 this)
theorem zS2 {n:Nat}{lo m:List Int} (O:Ord n lo) (h:m∈sett n):outS lo m∈sett n:=by
 have a:=(zAw _ m h).1
 refine zF3 _ _ (by rw [zBJ]; exact a) fun b hb=>?_
 obtain ⟨i,hi,rfl⟩:=qA9.mp hb
 have hi:=qB5.mp hi
 have:=O.rg i (by omega)
 exact zNa h (by omega)
theorem zQh {n:Nat}{lo m:List Int} (O:Ord n lo) (h:m∈sett n):zKw lo m∈sett n:=by
 have a:=(zAw _ m h).1
 refine zF3 _ _ (by rw [zDg]; exact a) fun b hb=>?_
 obtain ⟨i,hi,rfl⟩:=qA9.mp hb
 have hi:=qB5.mp hi
 exact zNa h (O.onto i (by omega)).1
theorem zS3 {n:Nat}{lo st:List Int} (O:Ord n lo) (h:st∈sett n):outS lo (zKw lo st)=st:=by
 have a:=(zAw _ st h).1
 refine zEu (by rw [zBJ,zDg]) fun i hi=>?_
 rw [zBJ,zDg] at hi
 have r:=O.rg i (by omega)
 rw [zF9 _ _ (by rw [zDg]; exact hi),zKv _ _ (by omega)]
 obtain ⟨q1,q2⟩:=O.onto (lo.getD i 0).toNat (by omega)
 have e:lo.idxOf ((((lo.getD i 0).toNat:Nat):Int))=i:=O.inj _ _ q1 (by omega) (by rw [q2]; omega)
 rw [e]
theorem zSr {n:Nat}{lo m:List Int} (O:Ord n lo) (h:m∈sett n):zKw lo (outS lo m)=m:=by
 have a:=(zAw _ m h).1
 refine zEu (by rw [zDg,zBJ]) fun j hj=>?_
 rw [zDg,zBJ] at hj
 obtain ⟨q1,q2⟩:=O.onto j (by omega)
 rw [zKv _ _ (by rw [zBJ]; exact hj),zF9 _ _ (by omega),q2]
 rw [show ((j:Int)).toNat=j by omega]
theorem zX1 {n:Nat}{lo m:List Int} (O:Ord n lo) (h:m∈sett n) {k:Nat} (hk:k<n):outS lo (exS m (lo.getD k 0).toNat)=exS (outS lo m) k:=by
 have a:=(zAw _ m h).1
 refine zEu (by rw [zBJ,zCf,zCf,zBJ]) fun i hi=>?_
 rw [zBJ,zCf] at hi
 have r:=O.rg i (by omega)
 have rk:=O.rg k hk
 rw [zF9 _ _ (by rw [zCf]; exact hi),zE8 _ _ (by omega),zE8 _ _ (by rw [zBJ]; exact hi),zF9 _ _ hi]
 by_cases e:k=i
 ·subst e; rw [if_pos rfl,if_pos rfl]
 ·rw [if_neg e,if_neg fun z=>e (O.inj k i hk (by omega) (by omega))]
theorem zNA {N:Net} (ok:N.g) {lo:List Int} (O:Ord N.sw.toNat lo) {k:Nat} (hk:(k:Int)<N.sw):zCY ⟨N.sw,N.pl,N.cs.map (zE0 lo)⟩ (lo.getD k 0).toNat=zCY N k:=by
 unfold zCY
 have rk:=O.rg k (by omega)
 have tl:∀ m∈sett N.sw.toNat,zB2 ⟨N.sw,N.pl,N.cs.map (zE0 lo)⟩ m=zB2 N (outS lo m):=fun m hm=>by
  obtain ⟨a,b⟩:=zAw _ m hm
  exact zPR (st:=outS lo m) ok.c2 (by rw [zBJ]; exact a) fun i hi=>by
   rw [zBJ] at hi
   rw [zF9 _ _ hi]
 refine zJs (zD4 _) (outS lo) (zKw lo) (fun m h=>⟨zS2 O h,zSr O h⟩) (fun st h=>⟨zQh O h,zS3 O h⟩) fun m h=>?_
 rw [tl m h,tl _ (zKI ok.s1 h (by omega)).1,zX1 O h (by omega)]
theorem zYw {S:zA0}{n:Nat}{ys:List D}{x:D} (h:zA6 S n=some ys) (hl:ys.length<lim):zDz zC2 (.lst n) [x] S=.ok .non (S.set n (.lst (ys++[x]))):=by
 rw [zEq h,zIG,if_pos hl]
noncomputable def mkP (N:Net) (st:List Int):List Int:=zA9 (esOf N.cs (zCZ N.cs st)) N.pl.toNat (ups N.pl.toNat)
noncomputable def mrk (N:Net) (st:List Int) (a:Nat):Nat:=((mkP N st).getD a 0).toNat
theorem esP {N:Net} (ok:N.g) (st:List Int):∀ e∈esOf N.cs (zCZ N.cs st),(0≤e.1∧e.1<(N.pl.toNat:Int))∧0≤e.2∧e.2<(N.pl.toNat:Int):=fun e he=>by
 rw [zE9] at he
 obtain ⟨c,hc,rfl⟩:=qA9.mp he
 obtain ⟨a1,a2,a3,_⟩:=ok.c2 c (qB2.mp hc).1
 have:=ok.p1
 dsimp only
 omega
theorem zIt {N:Net} (ok:N.g):0<N.pl.toNat∧N.pl.toNat≤7:=by have:=ok.p1; have:=ok.p2; omega
theorem zN0 {N:Net} (ok:N.g) (st:List Int):Mks N.pl.toNat (mrk N st):=(zHb (zIt ok).1 (esP ok st)).1
theorem zGH {N:Net} (ok:N.g) (st:List Int) {a b:Nat} (ha:a<N.pl.toNat) (hb:b<N.pl.toNat):mrk N st b=mrk N st a↔Conn (ends (N.cs.filter fun c=>zAr c st)) (a:Int) (b:Int):=by
 have h:=zFM (zIt ok).1 (esP ok st) hb ha
 have p:=(zHb (zIt ok).1 (esP ok st)).2
 have p1:=p a ha
 have p2:=p b hb
 rw [zE9] at h
 rw [zHA,← h,← zE9]
 unfold mrk mkP
 constructor
 ·intro e; omega
 ·intro e; rw [e]
theorem zN8:∀ fs:List Int,zQl (dkOf fs)=some fs
 | []=>rfl
 | f::fs=>by
  show (zQl (dkOf fs)).map (f::·)=_
  rw [zN8 fs]
  rfl
theorem zTL {S:zA0}{m:Nat}{fs:List Int} (h:S[m]?=some (.dk (dkOf fs))) (hl:fs.length<64):zCL [.dct m] S=.ok (.lst S.length) (S++[.lst ((zI0 fs).map D.int)]):=by
 simp [zCL,h,zN8,hl]
theorem zSb {pl:Nat}{l:List Int} (h:l.Nodup) (hr:∀ x∈l,0≤x∧x<pl):l.length≤pl:=by
 have:(l.map Int.toNat).Nodup:=(qH7.mpr (h.imp_of_mem fun {a b} ha hb ne e=>ne (by have:=hr a ha; have:=hr b hb; omega)))
 have q:=List.Nodup.length_le_of_subset this (l₂:=List.range pl) fun x hx=>by
  obtain ⟨y,hy,rfl⟩:=qA9.mp hx
  have:=hr y hy
  exact qB5.mpr (by omega)
 simpa using q
theorem zNQ {N:Net} (ok:N.g) (st:List Int) {a:Nat} (ha:a<N.pl.toNat) {fs:List Int} (nd:fs.Nodup) (r:zEi (ends (N.cs.filter fun c=>zAr c st)) (a:Int) (·∈fs)):zI0 fs=(cls N.pl.toNat (mrk N st) a).map (fun b=>((b:Nat):Int))∧fs.length≤N.pl.toNat:=by
 have rg:∀ x∈fs,0≤x∧x<(N.pl.toNat:Int):=fun x hx=>by
  refine (r.conn x).mp hx (fun x=>0≤x∧x<(N.pl.toNat:Int)) (by omega) fun e he=>?_
  have:=esP ok st e (by rw [zE9]; exact he)
  exact iff_of_true this.1 this.2
 refine ⟨(zGI ?_ ?_).symm,zSb nd rg⟩
 ·refine (qM7 ?_ nd).mpr fun x=>?_
  ·refine qH7.mpr ((zNp ..).imp fun {a b} h e=>?_)
   omega
  ·rw [r.conn x,qA9]
   constructor
   ·rintro ⟨b,hb,rfl⟩
    obtain ⟨h1,h2⟩:=qB2.mp hb
    exact (zGH ok st ha (qB5.mp h1)).mp (by simpa using h2)
   ·intro h
    have hx:=rg x ((r.conn x).mpr h)
    refine ⟨x.toNat,qB2.mpr ⟨qB5.mpr (by omega),?_⟩,by omega⟩
    rw [decide_eq_true_eq]
    refine (zGH ok st ha (by omega)).mpr ?_
    rw [show ((x.toNat:Nat):Int)=x by omega]
    exact h
 ·exact qH7.mpr ((zNp ..).imp fun {a b} h=>by omega)
noncomputable def pcD (pl:Nat) (m:Nat→Nat) (a:Nat):D:=.tup (zBk (cls pl m a))
noncomputable def tell (pl:Nat) (m:Nat→Nat) (j:Nat):List D:=((List.range j).filter fun a=>decide (m a=a)).map (pcD pl m)
theorem pa_l (c:CLL) {w0 w1 w5:Option D}{k q m:Nat}{p f0:Int}{pd:D}{S S1 S2 S3:zA0} (e1:c "places_from" [.int p,.lst k] S=.ok (.dct m) S1) (f:zCL [.dct m] S1=.ok (.lst S1.length) S2) (t:zAh [.lst S1.length] S2=.ok pd S2) (i0:oIx pd (.int 0) S2=.ok (.int f0) S2)
  (ty:tyOk "list" (.lst q) S2=true) (h:if f0=p then zDz zC2 (.lst q) [pd] S2=.ok .non S3 else S3=S2) :
  zBP c [w0,w1,some (.lst k),some (.lst q),some (.int p),w5] S=.nx [w0,w1,some (.lst k),some (.lst q),some (.int p),some pd] S3:=by
 by_cases h0:f0=p
 ·rw [if_pos h0] at h
  simp [zBP,e1,f,t,i0,h0,ty,h]
 ·rw [if_neg h0] at h
  subst h
  simp [zBP,e1,f,t,i0,h0]
structure HPc (cl:Nat→CLL):Prop where
 is:zBs cl
 sa:zG5 cl
 pf:zAC cl
 sc:zAK cl
 pi:zGj cl
 ri:zHW cl
inductive PaI (w0 w1:Option D) (k q:Nat) (N:Net) (st:List Int) (S0:zA0) (j:Nat) (ρ:Env1) (S:zA0):Prop
 | mk (w4 w5:Option D) (e:ρ=[w0,w1,some (.lst k),some (.lst q),w4,w5]) (x:Kp (·=q) S0 S) (l:zA6 S q=some (tell N.pl.toNat (mrk N st) j))
theorem zJR (pl:Nat) (m:Nat→Nat) (j:Nat):tell pl m (j+1)=if m j=j then tell pl m j++[pcD pl m j] else tell pl m j:=by
 unfold tell
 rw [qM1,qM8,qE4]
 by_cases h:m j=j
 ·simp [h]
 ·simp [h]
theorem zMG (pl:Nat) (m:Nat→Nat) (j:Nat):(tell pl m j).length≤j:=by
 unfold tell
 rw [qA2]
 have:=qD9 (fun a=>decide (m a=a)) (List.range j)
 simpa using this
theorem zX0 (c:CLL) {nd sd:D}{pl:Int}{k m:Nat}{v4 v5:Option D}{S S1 S2 S3:zA0} (e1:c "shut_contacts" [nd,sd] S=.ok (.lst k) S1) (h2:S1++[.lst []]=S2) (i1:∀ S,oIx nd (.int 1) S=.ok (.int pl) S) (b3:-4611686018427387904≤pl) (b4:pl<4611686018427387904) (ta:pl.toNat=m)
  (e:zBC [] (gN 4) (zBP c) (upD 0 m) [some nd,some sd,some (.lst k),some (.lst S1.length),none,none] S2=.nx [some nd,some sd,some (.lst k),some (.lst S1.length),v4,v5] S3) :
  zCN c [some nd,some sd,none,none,none,none] S=.rt (.lst S1.length) S3:=by
 simp [zCN,e1,h2,i1,b3,b4,ta,e]
theorem zMY (N:Net) (S:zA0):oIx N.d (.int 1) S=.ok (.int N.pl) S:=by simp [Net.d]
theorem zDy (H:HPc cl) (n:Nat) {N:Net} (ok:N.g) {st:List Int} (hs:(st.length:Int)=N.sw) (S:zA0):∃ k S1,cl (n+3) "pieces_at" [N.d,zA4 st] S=.ok (.lst k) S1∧Ex S S1∧S.length≤k∧zA6 S1 k=some (tell N.pl.toNat (mrk N st) N.pl.toNat):=by
 have li:=zE1
 obtain ⟨pp,p7⟩:=zIt ok
 have p1:=ok.p1
 have e1:=zBT H.sc H.is n N st (ok.len (by decide)) (ok.ks ⟨hs⟩) S
 obtain ⟨S1,h1⟩:∃ S1,S++[.lst ((N.cs.filter fun c=>zAr c st).map Ct.d)]=S1:=⟨_,rfl⟩
 rw [h1] at e1
 have n1:S1.length=S.length+1:=by rw [← h1]; simp
 have l1:zA6 S1 S.length=some ((N.cs.filter fun c=>zAr c st).map Ct.d):=h1▸zA3 _ _
 obtain ⟨S2,h2⟩:∃ S2,S1++[.lst []]=S2:=⟨_,rfl⟩
 have x12:Ex S1 S2:=h2▸zA7 _ _
 have l2:zA6 S2 S1.length=some []:=h2▸zA3 _ _
 have lc2:=x12.lst l1 fun z=>z
 obtain ⟨ρ',S3,e3,v4,v5,rfl,x3,l3⟩:=zBd (w:=[]) (g:=gN 4) (b:=zBP (cl (n+2))) (items:=upD 0 N.pl.toNat) (PaI (some N.d) (some (zA4 st)) S.length S1.length N st S2) (ρ:=[some N.d,some (zA4 st),some (.lst S.length),some (.lst S1.length),none,none]) (S:=S2)
  (fun _ _ _ _=>zAp _) ⟨none,none,rfl,Kp.refl _ _,by simpa [tell] using l2⟩
  (fun j dd ρ T hd hp=>by
   obtain ⟨v4,v5,rfl,x,l⟩:=hp
   rw [zEI] at hd
   obtain ⟨hm,rfl⟩:=hd
   rw [qK8]
   refine ⟨[some N.d,some (zA4 st),some (.lst S.length),some (.lst S1.length),some (.int (j:Nat)),v5],T,rfl,?_⟩
   have lcT:=x.lst lc2 (by omega)
   obtain ⟨m,T1,fs,e4,x4,g4,r4,nd4⟩:=zKi H.pf (n+1) (N.cs.filter fun c=>zAr c st) (j:Nat) (by omega) (qC6 (qD9 _ _) (ok.len (by decide))) ((ok.in7 (by decide)).filter _) lcT
   obtain ⟨es,el⟩:=zNQ ok st hm nd4 r4
   have f:=zTL g4 (by omega)
   rw [es,qC0] at f
   obtain ⟨T2,h5⟩:∃ T2,T1++[.lst ((cls N.pl.toNat (mrk N st) j).map (D.int∘fun b=>((b:Nat):Int)))]=T2:=⟨_,rfl⟩
   rw [h5] at f
   have l5:zA6 T2 T1.length=some (zBk (cls N.pl.toNat (mrk N st) j)):=h5▸zA3 _ _
   have x5:Ex T1 T2:=h5▸zA7 _ _
   have t5:=zAg l5
   have fi:=zQS (zN0 ok st) hm
   have i0:oIx (pcD N.pl.toNat (mrk N st) j) (.int 0) T2=.ok (.int (mrk N st j:Nat)) T2:=by
    have:(zBk (cls N.pl.toNat (mrk N st) j))[0]?=some (.int (mrk N st j:Nat)):=by unfold zBk; rw [qA6,fi]; rfl
    cases hq:zBk (cls N.pl.toNat (mrk N st) j) with
    | nil=>rw [hq] at this; cases this
    | cons a r =>
     rw [hq] at this
     cases this
     unfold pcD
     rw [hq]
     simp
   have lq:=(x4.trans x5).lst l fun z=>z
   have tl:=zMG N.pl.toNat (mrk N st) j
   by_cases hr:mrk N st j=j
   ·have m6:=zYw (x:=pcD N.pl.toNat (mrk N st) j) lq (by omega)
    refine ⟨_,_,.inl (pa_l (cl (n+2)) e4 f t5 i0 (zCl lq) (by rw [if_pos (by omega)]; exact m6)),_,_,rfl,x.trans ((Ex.kp (x4.trans x5)).trans (zHe _ _)),?_⟩
    rw [zC1 lq,zJR,if_pos hr]
   ·refine ⟨_,_,.inl (pa_l (cl (n+2)) e4 f t5 i0 (zCl lq) (by rw [if_neg (by omega)])),_,_,rfl,x.trans (Ex.kp (x4.trans x5)),?_⟩
    rw [lq,zJR,if_neg hr])
 rw [zBL] at l3
 have xx:Ex S S3:=((Ex.kp (h1▸zA7 _ _:Ex S S1)).trans ((Ex.kp x12).trans x3)).mono fun j hj e=>by omega
 refine ⟨S1.length,S3,?_,xx,by omega,l3⟩
 rw [show n+3=(n+2)+1 from rfl,H.pi]
 exact zAa rfl (zX0 (cl (n+2)) e1 h2 (zMY N) (by omega) (by omega) rfl e3)
theorem zWC (c:CLL) {nd sd:D}{pl:Int}{k:Nat}{xs ys:List D}{S S1 S2:zA0} (e1:c "shut_at" [nd,sd] S=.ok (.tup xs) S1) (i1:∀ S,oIx nd (.int 1) S=.ok (.int pl) S) (e2:c "pieces_at" [nd,sd] S1=.ok (.lst k) S2) (f2:fLen [.lst k] S2=.ok (.int (ys.length:Int)) S2):zDq c [some nd,some sd] S=.rt (.int ((xs.length:Int) - pl+(ys.length:Int))) S2:=by
 simp [zDq,e1,i1,e2,f2]
theorem zFG (H:HPc cl) (n:Nat) {N:Net} (ok:N.g) {st:List Int} (hs:(st.length:Int)=N.sw) (S:zA0):Spc (cl (n+4) "rings_at" [N.d,zA4 st] S) (.int (((zCZ N.cs st).length:Int) - N.pl+((tell N.pl.toNat (mrk N st) N.pl.toNat).length:Int))) S:=by
 obtain ⟨S1,e1,x1⟩:=zG8 H.sa H.is (n+1) N st (ok.len (by decide)) (ok.ks ⟨hs⟩) S
 obtain ⟨k,S2,e2,x2,_,l2⟩:=zDy H n ok hs S1
 refine ⟨S2,?_,x1.trans x2⟩
 rw [show n+4=(n+3)+1 from rfl,H.ri]
 have r:=zAa (np:=2) (nN:=2) (ds:=[N.d,zA4 st]) rfl (zWC (cl (n+3)) e1 (zMY N) e2 (zDD l2))
 rw [show (zBk (zCZ N.cs st)).length=(zCZ N.cs st).length by unfold zBk; rw [qA2]] at r
 exact r
theorem Net.d_eq (N:Net):N.d=.tup [.int N.sw,.int N.pl,.tup (N.cs.map Ct.d)]:=rfl
noncomputable def Ct.mv (f:Int→Int) (c:Ct):Ct:=⟨if f c.b<f c.a then f c.b else f c.a,if f c.b>f c.a then f c.b else f c.a,c.k,c.o⟩
noncomputable def Net.cutN (N:Net) (i:Nat):Net:=⟨N.sw,N.pl,N.cs.take i++N.cs.drop (i+1)⟩
theorem zTm {ms mp mc:Int}{N:Net} (ok:N.ok ms mp mc) (i:Nat):(N.cutN i).ok ms mp mc:=by
 have:=ok.c1
 refine ⟨ok.s1,ok.s2,ok.p1,ok.p2,?_,fun c hc=>?_⟩
 ·show ((N.cs.take i++N.cs.drop (i+1)).length:Int)≤mc
  rw [qC4,qI0,qG4]; omega
 ·rcases qD2.mp hc with q | q
  ·exact ok.c2 c (qL8 q)
  ·exact ok.c2 c (qP0 q)
theorem zaO (N:Net) (i:Nat):(N.cutN i).d=.tup [.int N.sw,.int N.pl,.tup ((N.cs.map Ct.d).take i++(N.cs.map Ct.d).drop (i+1))]:=by
 show D.tup [.int N.sw,.int N.pl,.tup ((N.cs.take i++N.cs.drop (i+1)).map Ct.d)]=_
 rw [qE4,qS0,qP4]
theorem zQL (R:List D) (i:Nat):cutD R none (some (i:Int))=R.take i∧cutD R (some ((i:Int)+1)) none=R.drop (i+1):=by
 refine ⟨?_,?_⟩
 ·rw [zKM _ (by omega)]; simp
 ·rw [zKN _ (by omega)]; congr 1
theorem zVf (R:List D) (i:Nat) (h:R.length≤100):(R.take i).length+(R.drop (i+1)).length≤lim:=by
 rw [zB0]; simp; omega
theorem zEP (h:zAW cl) (hw:zBM cl) (n:Nat) {N:Net}{i:Nat} (hi:i<N.cs.length) (S:zA0):cl (n+2) "refuse_no_contact" [N.d,.int (i:Int)] S=.ok .non S:=by
 have e1:=zJm hw n (zRG (i:Int)) S
 rw [show zIC (.int (i:Int))=true from rfl] at e1
 rw [show n+2=(n+1)+1 from rfl,h]
 refine zT2 rfl (ρ:=[some N.d,some (.int (i:Int))]) ?_
 have h0:(0:Int)≤(i:Int):=by omega
 have h1:(i:Int)<((N.cs.map Ct.d).length:Int):=by rw [qA2]; omega
 rw [Net.d_eq]
 generalize (i:Int)=I at *
 generalize N.cs.map Ct.d=R at *
 simp [zB5,zAu,e1,h0,h1]
theorem zSF (h:zRg cl) (hr:zAW cl) (hw:zBM cl) (n:Nat) {N:Net} (hl:N.cs.length≤100) {i:Nat} (hi:i<N.cs.length) (S:zA0):cl (n+3) "cut" [N.d,.int (i:Int)] S=.ok (N.cutN i).d S:=by
 have e1:=zEP hr hw n hi S
 rw [show n+3=(n+2)+1 from rfl,h]
 refine zAa rfl ?_
 rw [zaO]
 rw [Net.d_eq] at e1 ⊢
 have hR:(N.cs.map Ct.d).length≤100:=by rw [qA2]; exact hl
 generalize N.cs.map Ct.d=R at *
 obtain ⟨c1,c2⟩:=zQL R i
 have cl':=zVf R i hR
 generalize R.take i=R1 at *
 generalize R.drop (i+1)=R2 at *
 generalize (i:Int)=I at *
 simp [zSU,zAu,e1,c1,c2,cl']
noncomputable def pcN (N:Net) (st:List Int):Nat:=(reps N.pl.toNat (mrk N st)).length
theorem zP1 (N:Net) (st:List Int):(tell N.pl.toNat (mrk N st) N.pl.toNat).length=pcN N st:=by unfold tell pcN reps; rw [qA2]
theorem zPQ {N:Net} (ok:N.g) (st:List Int):Mk N.pl.toNat (ends (N.cs.filter fun c=>zAr c st)) (mrk N st):=⟨zN0 ok st,fun a b ha hb=>zGH ok st ha hb⟩
theorem zFD (cs:List Ct) (st:List Int):(zCZ cs st).length=(cs.filter fun c=>zAr c st).length:=by rw [← zJZ cs st ⟨0,0,0,0⟩,qA2]
theorem zTR {cs:List Ct}{st:List Int}{i:Nat}{c:Ct} (h:cs[i]?=some c):decide (i∈zCZ cs st)=zAr c st:=by
 rw [qE7,decide_eq_true_eq]
 constructor
 ·intro hm
  obtain ⟨c',h',hs⟩:=zRz hm
  rw [h] at h'; cases h'; exact hs
 ·intro hs
  unfold zCZ
  refine qA9.mpr ⟨(i,c),qB2.mpr ⟨?_,hs⟩,rfl⟩
  unfold zCT
  have hi:=(qA5.mp h).1
  exact qB9 (i:=i) (by rw [qD8]; exact ⟨qC8 hi,h⟩)
theorem zNk {cs:List Ct}{i:Nat}{c:Ct} (h:cs[i]?=some c):cs=cs.take i++c::cs.drop (i+1):=by
 obtain ⟨hi,e⟩:=qA5.mp h
 rw [← e,List.getElem_cons_drop hi,qL0]
theorem zSG {N:Net}{i:Nat}{c:Ct} (h:N.cs[i]?=some c) (st:List Int):(N.cs.filter fun c=>zAr c st).length=((N.cutN i).cs.filter fun c=>zAr c st).length+(if zAr c st then 1 else 0):=by
 have e:=zNk h
 show _=((N.cs.take i++N.cs.drop (i+1)).filter _).length+_
 conv=>lhs; rw [e]
 rw [qM8,qM8,qC4,qC4,qE0]
 split <;> simp <;> omega
theorem zNj {N:Net}{i:Nat}{c:Ct} (h:N.cs[i]?=some c) (st:List Int) (e:Int × Int):e∈ends (N.cs.filter fun c=>zAr c st)↔(zAr c st=true∧e=(c.a,c.b))∨e∈ends ((N.cutN i).cs.filter fun c=>zAr c st):=by
 have q:=zNk h
 unfold ends
 simp only [qA9,qB2]
 have hm:∀ d,d∈N.cs↔d=c∨d∈(N.cutN i).cs:=fun d=>by
  show d∈N.cs↔d=c∨d∈N.cs.take i++N.cs.drop (i+1)
  conv=>lhs; rw [q]
  rw [qD2,qB7,qD2]
  constructor
  ·rintro (z | z | z)
   ·exact .inr (.inl z)
   ·exact .inl z
   ·exact .inr (.inr z)
  ·rintro (z | z | z)
   ·exact .inr (.inl z)
   ·exact .inl z
   ·exact .inr (.inr z)
 constructor
 ·rintro ⟨d,⟨h1,h2⟩,rfl⟩
  rcases (hm d).mp h1 with rfl | h1
  ·exact .inl ⟨h2,rfl⟩
  ·exact .inr ⟨d,⟨h1,h2⟩,rfl⟩
 ·rintro (⟨h2,rfl⟩ | ⟨d,⟨h1,h2⟩,rfl⟩)
  ·exact ⟨c,⟨(hm c).mpr (.inl rfl),h2⟩,rfl⟩
  ·exact ⟨d,⟨(hm d).mpr (.inr h1),h2⟩,rfl⟩
theorem zOh {N:Net} (ok:N.g) {i:Nat}{c:Ct} (h:N.cs[i]?=some c) (st:List Int):(zAr c st=false→pcN (N.cutN i) st=pcN N st)∧(pcN (N.cutN i) st=pcN N st∨pcN (N.cutN i) st=pcN N st+1):=by
 have M:=zPQ (zTm ok i) st
 have K:=zPQ ok st
 have okc:=ok.c2 c (qB9 h)
 obtain ⟨a0,ab,bp,_⟩:=okc
 have hf:zAr c st=false→pcN (N.cutN i) st=pcN N st:=fun e=>by
  refine congrArg qO6 (zK7 M K fun a b _ _=>zKO fun x=>?_)
  rw [zNj h st x,e]
  exact ⟨fun z=>.inr z,fun z=>z.resolve_left fun y=>by cases y.1⟩
 refine ⟨hf,?_⟩
 cases e:zAr c st with
 | false=>exact .inl (hf e)
 | true =>
  obtain ⟨r1,r2⟩:=zK9 M K (u:=c.a.toNat) (v:=c.b.toNat) (by show c.a.toNat<N.pl.toNat; omega) (by show c.b.toNat<N.pl.toNat; omega) fun a b _ _=>zKO fun x=>by
   rw [zNj h st x,qB7,e,show ((c.a.toNat:Nat):Int)=c.a by omega,show ((c.b.toNat:Nat):Int)=c.b by omega]
   exact ⟨fun z=>z.imp (fun y=>y.2) id,fun z=>z.imp (fun y=>⟨rfl,y⟩) id⟩
  by_cases q:mrk (N.cutN i) st c.a.toNat=mrk (N.cutN i) st c.b.toNat
  ·exact .inl (r1 q).symm
  ·exact .inr (r2 q).symm
theorem zPs {N:Net} (ok:N.g) (st:List Int):0≤((zCZ N.cs st).length:Int) - N.pl+(pcN N st:Int):=by
 have:=zK8 (zIt ok).1 _ _ (fun e he=>esP ok st e (by rw [zE9]; exact he)) (zPQ ok st)
 have e:(ends (N.cs.filter fun c=>zAr c st)).length=(zCZ N.cs st).length:=by unfold ends; rw [qA2,zFD]
 have:=ok.p1
 unfold pcN
 omega
theorem oIn_nats' (L:List Nat) (j:Nat) (S:zA0):oIn false (.int (j:Int)) (.tup (zBk L)) S=.ok (.bl (decide (j∈L))) S:=by
 have:=zGG false (j:Int) (L.map fun k=>((k:Nat):Int)) S
 rw [qC0] at this
 have e:decide ((j:Int)∈L.map fun k=>((k:Nat):Int))=decide (j∈L):=by
  rw [decide_eq_decide,qA9]
  refine ⟨fun ⟨k,h1,h2⟩=>?_,fun h=>⟨j,h,rfl⟩⟩
  have:k=j:=by omega
  exact this▸h1
 rw [e] at this
 exact this
theorem cr_l (c:CLL) {nd ld sd:D}{i p p' g g' sh df r:Int}{k k':Nat}{b:Bool}{L:D}{w4 w5:Option D}{S S1 S2 S3 S4 S5 S6:zA0} (e1:c "pieces_at" [ld,sd] S=.ok (.lst k) S1) (f1:fLen [.lst k] S1=.ok (.int p') S1) (e2:c "pieces_at" [nd,sd] S1=.ok (.lst k') S2) (f2:fLen [.lst k'] S2=.ok (.int p) S2)
  (e3:c "shut_at" [nd,sd] S2=.ok L S3) (q3:oIn false (.int i) L S3=.ok (.bl b) S3) (hb:(if b=true then (1:Int) else 0)=sh) (e4:c "rings_at" [nd,sd] S3=.ok (.int g) S4) (e5:c "rings_at" [ld,sd] S4=.ok (.int g') S5) (e6:c "rings_at" [ld,sd] S5=.ok (.int g') S6) (hd:p' - p=df) (h1:0≤df) (h2:df≤sh) (h3:g - g'=r) (h5:sh - df=r) (h4:¬ g'<0) :
  zB8 c [some nd,some (.int i),some ld,some sd,w4,w5] S=.nx [some nd,some (.int i),some ld,some sd,some (.int df),some (.int sh)] S6:=by
 simp [zB8,e1,f1,e2,f2,e3,q3,hb,hd,h1,h2,e4,e5,e6,h3,h5,h4]
theorem zYg (c:CLL) {nd ld:D}{i sw:Int}{k:Nat}{B:List D}{w3 w4 w5:Option D}{S S1 S2 S3:zA0} (i0:∀ S,oIx nd (.int 0) S=.ok (.int sw) S) (e1:c "cut" [nd,.int i] S=.ok ld S1) (e2:c "settings" [.int sw] S1=.ok (.lst k) S2) (l2:zA6 S2 k=some B)
  (e3:zBC [(k,B)] (gN 3) (zB8 c) B [some nd,some (.int i),some ld,none,none,none] S2=.nx [some nd,some (.int i),some ld,w3,w4,w5] S3):zBn c [some nd,some (.int i),none,none,none,none] S=.rt (.bl true) S3:=by
 simp [zBn,i0,e1,e2,l2,e3]
structure HCr (cl:Nat→CLL):Prop where
 p:HPc cl
 cu:zRg cl
 rc:zAW cl
 wh:zBM cl
 se:zCj cl
 cr:zDN cl
inductive CrI (nd ld:D) (i:Int) (S0:zA0) (ρ:Env1) (S:zA0):Prop
 | mk (w3 w4 w5:Option D) (e:ρ=[some nd,some (.int i),some ld,w3,w4,w5]) (x:Ex S0 S)
theorem zQK (H:HCr cl) (n:Nat) {N:Net} (ok:N.g) {i:Nat}{c:Ct} (hi:N.cs[i]?=some c) (S:zA0):Spc (cl (n+5) "_law_cut_right" [N.d,.int (i:Int)] S) (.bl true) S:=by
 have hil:=(qA5.mp hi).1
 have okL:=zTm ok i
 have e1:=zSF H.cu H.rc H.wh (n+1) (ok.len (by decide)) hil S
 obtain ⟨k,S2,e2,x2,_,l2⟩:=zBU H.se (n+3) (sw:=N.sw) (by have:=ok.s1; omega) ok.s2 S
 obtain ⟨ρ',S3,e3,w3,w4,w5,rfl,x3⟩:=zBd (w:=[(k,(sett N.sw.toNat).map zA4)]) (g:=gN 3) (b:=zB8 (cl (n+4))) (items:=(sett N.sw.toNat).map zA4) (fun _=>CrI N.d (N.cutN i).d (i:Int) S2) (ρ:=[some N.d,some (.int (i:Int)),some (N.cutN i).d,none,none,none]) (S:=S2)
  (fun m ρ S' hp=>by obtain ⟨_,_,_,_,x⟩:=hp; exact zCz (x.lst l2 fun z=>z)) ⟨none,none,none,rfl,Kp.refl _ _⟩
  (fun m d ρ S' hd hp=>by
   obtain ⟨w3,w4,w5,rfl,x⟩:=hp
   rw [qA6] at hd
   obtain ⟨st,hst,rfl⟩:=qA1.mp hd
   have hs:=sett_len' ok (qB9 hst)
   obtain ⟨k1,T1,a1,y1,_,b1⟩:=zDy H.p (n+1) okL (st:=st) hs S'
   obtain ⟨k2,T2,a2,y2,_,b2⟩:=zDy H.p (n+1) ok (st:=st) hs T1
   obtain ⟨T3,a3,y3⟩:=zG8 H.p.sa H.p.is (n+2) N st (ok.len (by decide)) (ok.ks ⟨hs⟩) T2
   have q3:=oIn_nats' (zCZ N.cs st) i T3
   rw [zTR hi] at q3
   obtain ⟨T4,a4,y4⟩:=zFG H.p n ok (st:=st) hs T3
   obtain ⟨T5,a5,y5⟩:=zFG H.p n okL (st:=st) hs T4
   obtain ⟨T6,a6,y6⟩:=zFG H.p n okL (st:=st) hs T5
   have f1:=zDD b1
   have f2:=zDD b2
   rw [zP1] at f1 f2 a4 a5 a6
   obtain ⟨z1,z2⟩:=zOh ok hi st
   have zr:=zPs okL st
   have zs:=zSG hi st
   rw [← zFD,← zFD] at zs
   have pe:(N.cutN i).pl=N.pl:=rfl
   refine ⟨_,_,rfl,_,T6,.inl (cr_l _ a1 f1 a2 f2 a3 q3 rfl a4 a5 a6 rfl ?_ ?_ rfl ?_ ?_),⟨_,_,_,rfl,x.trans (((((y1.trans y2).trans y3).trans y4).trans y5).trans y6)⟩⟩
   ·omega
   ·cases hsb:zAr c st with
    | false=>have:=z1 hsb; simp; omega
    | true=>simp; omega
   ·cases hsb:zAr c st with
    | false=>have:=z1 hsb; rw [hsb] at zs; simp at zs ⊢; omega
    | true=>rw [hsb] at zs; simp at zs ⊢; omega
   ·omega)
 refine ⟨S3,?_,x2.trans x3⟩
 rw [show n+5=(n+4)+1 from rfl,H.cr]
 exact zAa rfl (zYg _ (fun S=>by simp [Net.d]) e1 e2 l2 e3)
theorem zJj {N:Net}{st:List Int}:zB2 N st=true↔∀ C:Int→Prop,C 0→(∀ c∈N.cs,zAr c st=true→(C c.a↔C c.b))→C 1:=by
 unfold zB2
 rw [zQ4]
 unfold zLf ends
 constructor
 ·intro h C c0 cc
  refine h C c0 fun e he=>?_
  obtain ⟨c,hc,rfl⟩:=qA9.mp he
  rw [qB2] at hc
  exact cc c hc.1 hc.2
 ·intro h C c0 cc
  refine h C c0 fun c hc hs=>?_
  exact cc (c.a,c.b) (qA9.mpr ⟨c,qB2.mpr ⟨hc,hs⟩,rfl⟩)
noncomputable def zZE (mid:Int) (p:Int):Int:=if p=1 then mid else p
noncomputable def zZD (p1 mid:Int) (k:Int):Int:=if k=0 then mid else if k=1 then 1 else k+p1 - 2
noncomputable def Net.row (N M:Net):Net:=⟨N.sw,N.pl+M.pl - 2+1,N.cs.map (Ct.mv (zZE (N.pl+M.pl - 2)))++M.cs.map (Ct.mv (zZD N.pl (N.pl+M.pl - 2)))⟩
open PySem L2
inductive Tr where
 | lf (k o:Int)
 | nd (r:Bool) (ps:List Tr)
noncomputable def kw (r:Bool):Str:=if r then Str.ofString "row" else Str.ofString "side"
@[simp] theorem zap (a b:Str) (S:zA0):oEq (.str a) (.str b) S=.ok (.bl (decide (a=b))) S:=rfl
noncomputable def Tr.un (r:Bool):Tr→List Tr
 | .nd r' qs=>if r'=r then qs else [.nd r' qs]
 | .lf k o=>[.lf k o]
theorem zLH {S:zA0}{k:Nat}{ys:List D} (h:zA6 S k=some ys) (zs:List D):zCK (.lst k) [.tup zs] S=if ys.length+zs.length≤lim then .ok .non (S.set k (.lst (ys++zs))) else .bad:=by
 unfold zCK
 simp only [zAZ h]
noncomputable def pB (p:Prop):Bool:=@decide p (Classical.propDecidable p)
theorem zDZ {p:Prop}:pB p=true↔p:=@decide_eq_true_iff p (Classical.propDecidable p)
theorem pB_t {p:Prop} (h:p):pB p=true:=zDZ.mpr h
theorem pB_f {p:Prop} (h:¬ p):pB p=false:=by
 cases q:pB p with
 | false=>rfl
 | true=>exact absurd (zDZ.mp q) h
theorem zUz {p:Prop}{b:Bool} (h:b=true↔p):b=pB p:=zCW (h.trans zDZ.symm)
def okF (sw:Int) (l:List Int):Prop:=l.length=2 ^ sw.toNat∧∀ i∈l,0≤i∧i<2
noncomputable def rowD (r:List (List Int)):D:=.tup (r.map zA4)
def okR (sw:Int) (p:Nat) (r:List (List Int)):Prop:=r.length=p∧∀ l∈r,okF sw l
noncomputable abbrev Tb:=List (List (List Int))
noncomputable def tD (T:Tb):D:=.tup (T.map rowD)
def okT (sw:Int) (T:Tb):Prop:=2≤T.length∧T.length≤7∧∀ r∈T,okR sw T.length r
noncomputable def ent (T:Tb) (a b:Nat):List Int:=(T.getD a []).getD b []
def gdT (T:Tb):Prop:=(∀ a,a<T.length→0∉ent T a a)∧∀ a,a<T.length→∀ b,b<a→ent T a b=ent T b a
theorem zED {sw:Int}{T:Tb} (ok:okT sw T) {a:Nat} (ha:a<T.length):T[a]?=some (T.getD a [])∧okR sw T.length (T.getD a []):=by
 have:T.getD a []=T[a]:=by rw [qB3,qA0 ha]; rfl
 rw [this]
 exact ⟨qA0 ha,ok.2.2 _ (qD1 ha)⟩
theorem zCV {sw:Int}{T:Tb} (ok:okT sw T) {a b:Nat} (ha:a<T.length) (hb:b<T.length):(T.getD a [])[b]?=some (ent T a b)∧okF sw (ent T a b):=by
 obtain ⟨_,l,o⟩:=zED ok ha
 have hb':b<(T.getD a []).length:=by rw [l]; exact hb
 have:ent T a b=(T.getD a [])[b]:=by unfold ent; rw [qB3,qA0 hb']; rfl
 rw [this]
 exact ⟨qA0 hb',o _ (qD1 hb')⟩
theorem zQ5 {sw:Int}{T:Tb} (ok:okT sw T) {a:Nat} (ha:a<T.length) (S:zA0):oIx (tD T) (.int (a:Nat)) S=.ok (rowD (T.getD a [])) S:=by
 unfold tD
 rw [zPN,zCQ (show (T.map rowD)[a]?=some (rowD (T.getD a [])) by rw [qA6,(zED ok ha).1]; rfl)]
theorem zQ6 {sw:Int}{T:Tb} (ok:okT sw T) {a b:Nat} (ha:a<T.length) (hb:b<T.length) (S:zA0):oIx (rowD (T.getD a [])) (.int (b:Nat)) S=.ok (zA4 (ent T a b)) S:=by
 unfold rowD
 rw [zPN,zCQ (show ((T.getD a []).map zA4)[b]?=some (zA4 (ent T a b)) by rw [qA6,(zCV ok ha hb).1]; rfl)]
theorem zL3 {l m:List Int} (h:zA4 l=zA4 m):l=m:=by
 have h':l.map D.int=m.map D.int:=by injection h
 exact (qK3 fun a b e=>by injection e).mp h'
theorem zIP (l:List Int):plain 40 (zA4 l)=true:=zC0 (zFH (by decide) l)
theorem zUM (l m:List Int) (S:zA0):oNe (zA4 l) (zA4 m) S=.ok (.bl (!pB (l=m))) S:=by
 rw [zFa S (zIP l) (zIP m)]
 have:eqB (zA4 l) (zA4 m)=pB (l=m):=zUz (zCg.trans ⟨zL3,fun e=>by rw [e]⟩)
 rw [this]
theorem zTW (c:CLL) {Td ra rb la lb:D}{a b:Int}{S:zA0}{k:Bool} (e1:oIx Td (.int a) S=.ok ra S) (e2:oIx ra (.int b) S=.ok la S) (e3:oIx Td (.int b) S=.ok rb S) (e4:oIx rb (.int a) S=.ok lb S) (e5:oNe la lb S=.ok (.bl (!k)) S) :
  zAj c [some Td,some (.int a),some (.int b)] S=if k=true then .nx [some Td,some (.int a),some (.int b)] S else .rt (.bl false) S:=by
 cases k <;> simp at e5 <;> simp [zAj,e1,e2,e3,e4,e5]
theorem zTX (c:CLL) {Td:D}{w:Option D}{z:Int}{a:Nat}{S:zA0}{r:RS} (f1:-4611686018427387904≤z) (f2:z<4611686018427387904) (ta:z.toNat=a) (hr:zBC [] (gN 2) (zAj c) (upD 0 a) [some Td,some (.int z),w] S=r) :
  zAA c [some Td,some (.int z),w] S=sb r zA5 .mk:=by
 simp [zAA,f1,f2,ta,hr]
theorem zTY (c:CLL) {Td:D}{z:Int}{a:Nat}{S:zA0}{r:RS} (fl:fLen [Td] S=.ok (.int z) S) (f1:-4611686018427387904≤z) (f2:z<4611686018427387904) (ta:z.toNat=a) (hr:zBC [] (gN 1) (zAA c) (upD 0 a) [some Td,none,none] S=r) :
  zAv c [some Td,none,none] S=sb r (sSeq (sRet (cCon (.bl true))) zA5) .mk:=by
 simp only [zAv]
 rw [zLt]
 congr 1
 simp [fl,f1,f2,ta,hr]
theorem zHZ (h:zCk cl) (n:Nat) {sw:Int}{T:Tb} (ok:okT sw T) (S:zA0):cl (n+1) "same_both_ways" [tD T] S=.ok (.bl (pB (∀ a,a<T.length→∀ b,b<a→ent T a b=ent T b a))) S:=by
 rw [h]
 obtain ⟨Td,hTd⟩:∃ Td,Td=tD T:=⟨_,rfl⟩
 have hl7:=ok.2.1
 have inner:∀ (a:Nat),a<T.length→∀ (v2:Option D),(∃ w,zBC [] (gN 2) (zAj (cl n)) (upD 0 a) [some Td,some (.int (a:Nat)),v2] S=.nx [some Td,some (.int (a:Nat)),w] S∧∀ b,b<a→ent T a b=ent T b a)∨(zBC [] (gN 2) (zAj (cl n)) (upD 0 a) [some Td,some (.int (a:Nat)),v2] S=.rt (.bl false) S∧¬ ∀ b,b<a→ent T a b=ent T b a):=fun a ha v2=>by
  have up:upD 0 a=(List.range a).map fun (b:Nat)=>D.int (b:Nat):=by
   unfold upD; exact qD5 fun b _=>by simp
  rw [up]
  rcases zHd (fun (b:Nat)=>D.int (b:Nat)) (w:=[]) (g:=gN 2) (b:=zAj (cl n)) (fun ρ S'=>∃ w,ρ=[some Td,some (.int (a:Nat)),w]∧S'=S) (fun S'=>S'=S) (fun _ _ _=>zAp _) (fun b=>!pB (ent T a b=ent T b a)) (fun _=>.bl false) (List.range a) (ρ:=[some Td,some (.int (a:Nat)),v2]) (S:=S) ⟨v2,rfl,rfl⟩
   (fun b hb ρ S' hp=>by
    obtain ⟨w,rfl,rfl⟩:=hp
    have hb':=qB5.mp hb
    refine ⟨[some Td,some (.int (a:Nat)),some (.int (b:Nat))],S',rfl,?_⟩
    have e:=zTW (cl n) (Td:=Td) (by rw [hTd]; exact zQ5 ok ha S') (zQ6 ok ha (by omega) S') (by rw [hTd]; exact zQ5 ok (show b<T.length by omega) S') (zQ6 ok (by omega) ha S') (zUM (ent T a b) (ent T b a) S')
    cases q:pB (ent T a b=ent T b a) with
    | true=>rw [q,if_pos rfl] at e; exact .inr ⟨rfl,_,S',.inl e,_,rfl,rfl⟩
    | false=>rw [q,if_neg qA7] at e; exact .inl ⟨rfl,S',e,rfl⟩) with ⟨b,S',f1,f2,rfl⟩ | ⟨ρ',S',f1,f2,w,rfl,rfl⟩
  ·refine .inr ⟨f2,fun z=>?_⟩
   have hb:=qB5.mp (qN1 f1)
   have q:=qR6 f1
   rw [pB_t (z b hb)] at q
   cases q
  ·refine .inl ⟨w,f2,fun b hb=>?_⟩
   have:=qQ0.mp f1 b (qB5.mpr hb)
   cases q:pB (ent T a b=ent T b a) with
   | true=>exact zDZ.mp q
   | false=>rw [q] at this; exact absurd rfl this
 have up:upD 0 T.length=(List.range T.length).map fun (b:Nat)=>D.int (b:Nat):=by
  unfold upD; exact qD5 fun b _=>by simp
 have outer:=zHd (fun (a:Nat)=>D.int (a:Nat)) (w:=[]) (g:=gN 1) (b:=zAA (cl n)) (fun ρ S'=>∃ v w,ρ=[some Td,v,w]∧S'=S) (fun S'=>S'=S) (fun _ _ _=>zAp _) (fun a=>!pB (∀ b,b<a→ent T a b=ent T b a)) (fun _=>.bl false) (List.range T.length) (ρ:=[some Td,none,none]) (S:=S) ⟨_,_,rfl,rfl⟩
  (fun a ha ρ S' hp=>by
   obtain ⟨v,w,rfl,rfl⟩:=hp
   have ha':=qB5.mp ha
   refine ⟨[some Td,some (.int (a:Nat)),w],S',rfl,?_⟩
   have run:∀ r:RS,zBC [] (gN 2) (zAj (cl n)) (upD 0 a) [some Td,some (.int (a:Nat)),w] S'=r→zAA (cl n) [some Td,some (.int (a:Nat)),w] S'=sb r zA5 .mk:=fun r hr=>zTX _ (by omega) (by omega) (by omega) hr
   rcases inner a ha' w with ⟨w',e,z⟩ | ⟨e,z⟩
   ·exact .inr ⟨by rw [pB_t z]; rfl,_,S',.inl (by rw [run _ e]; rfl),_,_,rfl,rfl⟩
   ·exact .inl ⟨by rw [pB_f z]; rfl,S',by rw [run _ e]; rfl,rfl⟩)
 rw [← up] at outer
 have fin:∀ r:RS,zBC [] (gN 1) (zAA (cl n)) (upD 0 T.length) [some Td,none,none] S=r→zAv (cl n) [some Td,none,none] S=sb r (sSeq (sRet (cCon (.bl true))) zA5) .mk:=fun r hr=>by
  have fl:fLen [Td] S=.ok (.int (T.length:Nat)) S:=by rw [hTd]; unfold tD; rw [zNf,qA2]
  exact zTY _ fl (by omega) (by omega) (by omega) hr
 rw [← hTd]
 rcases outer with ⟨a,S',f1,f2,rfl⟩ | ⟨ρ',S',f1,f2,v,w,rfl,rfl⟩
 ·have ha:=qB5.mp (qN1 f1)
  have q:=qR6 f1
  rw [pB_f fun z=>by rw [pB_t (z a ha)] at q; cases q]
  exact zAa rfl (by show zAv (cl n) [some Td,none,none] S'=_; rw [fin _ f2]; rfl)
 ·rw [pB_t fun a ha=>by
   have:=qQ0.mp f1 a (qB5.mpr ha)
   cases q:pB (∀ b,b<a→ent T a b=ent T b a) with
   | true=>exact zDZ.mp q
   | false=>rw [q] at this; exact absurd rfl this]
  exact zAa rfl (by show zAv (cl n) [some Td,none,none] S'=_; rw [fin _ f2]; simp)
theorem zW3 {T U:Tb} (h:tD T=tD U):T=U:=by
 have h':T.map rowD=U.map rowD:=by unfold tD at h; injection h
 refine (qK3 fun a b e=>?_).mp h'
 have e':a.map zA4=b.map zA4:=by unfold rowD at e; injection e
 exact (qK3 fun x y e=>zL3 e).mp e'
theorem zSV (a:Nat):upD 0 a=(List.range a).map fun (b:Nat)=>D.int (b:Nat):=by
 unfold upD; exact qD5 fun b _=>by simp
structure Grid (S:zA0) (k:Nat) (rs:List Nat) (T:Tb):Prop where
 out:zA6 S k=some (rs.map D.lst)
 len:rs.length=T.length
 nd:rs.Nodup
 nk:k∉rs
 row:∀ (a r:Nat),rs[a]?=some r→zA6 S r=some ((T.getD a []).map zA4)
theorem zMS {sw P:Int} (h1:1≤sw) (h4:sw≤4) (hP:P=((2 ^ sw.toNat:Nat):Int)) (x:Int) (S:zA0):oMul (.tup [.int x]) (.int P) S=.ok (zA4 (qC2 (2 ^ sw.toNat) x)) S:=by
 have hb:2≤2 ^ sw.toNat∧2 ^ sw.toNat≤16:=by
  have:sw=1∨sw=2∨sw=3∨sw=4:=by omega
  rcases this with rfl | rfl | rfl | rfl <;> decide
 rw [hP]
 generalize 2 ^ sw.toNat=q at *
 unfold oMul
 dsimp only
 have e:((q:Int)).toNat=q:=by omega
 rw [if_pos ⟨by simp,by omega,by omega,by rw [zB0,e]; simp; omega⟩,e,List.flatten_replicate_singleton]
 unfold zA4
 rw [List.map_replicate]
def TOk (S0:zA0) (i k:Nat) (rs:List Nat) (sw:Int) (p:Nat) (S:zA0):Prop:=∃ T,Grid S k rs T∧okT sw T∧gdT T∧T.length=p∧Kp (·=i) S0 S∧StOk S i
def zZf (a b:Int) (c:Ct):Prop:=(c.a=a∧c.b=b)∨(c.a=b∧c.b=a)
noncomputable def tieB (N:Net) (a b:Int) (st:List Int):Bool:=pB (a=b∨∃ c∈N.cs,zZf a b c∧zAr c st=true)
noncomputable def tieL (N:Net) (a b:Int):List Int:=(sett N.sw.toNat).map fun st=>if tieB N a b st then 1 else 0
noncomputable def tieT (N:Net):Tb:=(List.range N.pl.toNat).map fun (a:Nat)=>(List.range N.pl.toNat).map fun (b:Nat)=>tieL N a b
theorem zOX (N:Net) (a:Int):tieL N a a=qC2 (2 ^ N.sw.toNat) 1:=by
 unfold tieL
 have:∀ st∈sett N.sw.toNat,(if tieB N a a st then (1:Int) else 0)=1:=fun st _=>by unfold tieB; rw [pB_t (.inl rfl)]; rfl
 rw [qD5 this,qR7,zBI]
noncomputable def netB (N:Net) (a b:Int):Net:=⟨N.sw,2,(N.cs.filter fun c=>eqB (D.tup [.int c.a,.int c.b]) (.tup [.int a,.int b])).map fun c=>⟨0,1,c.k,c.o⟩⟩
theorem zJg {N:Net}{a b:Int}{c:Ct}:c∈(N.cs.filter fun c=>eqB (D.tup [.int c.a,.int c.b]) (.tup [.int a,.int b]))↔c∈N.cs∧c.a=a∧c.b=b:=by
 rw [qB2,zCg]
 constructor
 ·rintro ⟨h,e⟩
  injection e with e
  injection e with e1 e2
  injection e2 with e2 _
  injection e1 with e1
  injection e2 with e2
  exact ⟨h,e1,e2⟩
 ·rintro ⟨h,rfl,rfl⟩
  exact ⟨h,rfl⟩
theorem zQ1 {N:Net}{a b:Int}{st:List Int}:zB2 (netB N a b) st=true↔∃ c∈N.cs,(c.a=a∧c.b=b)∧zAr c st=true:=by
 rw [zJj]
 constructor
 ·intro h
  refine Classical.byContradiction fun hn=>?_
  have:=h (fun x=>x=0) rfl (fun c hc hs=>by
   exfalso
   obtain ⟨c',hc',rfl⟩:=qA9.mp hc
   obtain ⟨m1,m2⟩:=zJg.mp hc'
   exact hn ⟨c',m1,m2,hs⟩)
  exact absurd this (by decide)
 ·rintro ⟨c,hc,he,hs⟩ C c0 cc
  exact (cc ⟨0,1,c.k,c.o⟩ (qA9.mpr ⟨c,zJg.mpr ⟨hc,he⟩,rfl⟩) hs).mp c0
theorem zSB {N:Net} (ok:N.g) {a b:Int} (hab:a≠b):funP (netB N (if b<a then b else a) (if b>a then b else a))=tieL N a b:=by
 unfold funP tieL
 show (sett N.sw.toNat).map _=_
 refine qD5 fun st _=>?_
 have:zB2 (netB N (if b<a then b else a) (if b>a then b else a)) st=tieB N a b st:=by
  unfold tieB
  refine zUz ?_
  rw [zQ1]
  constructor
  ·rintro ⟨c,hc,he,hs⟩
   refine .inr ⟨c,hc,?_,hs⟩
   by_cases h:b<a
   ·rw [if_pos h,if_neg (by omega)] at he; exact .inr he
   ·rw [if_neg h,if_pos (by omega)] at he; exact .inl he
  ·rintro (h | ⟨c,hc,he,hs⟩)
   ·exact absurd h hab
   ·obtain ⟨_,lt,_⟩:=ok.c2 c hc
    refine ⟨c,hc,?_,hs⟩
    by_cases h:b<a
    ·rw [if_pos h,if_neg (by omega)]
     rcases he with he | he
     ·omega
     ·exact he
    ·rw [if_neg h,if_pos (by omega)]
     rcases he with he | he
     ·exact he
     ·omega
 rw [this]
theorem zTC (c:CLL) {nd:D}{sw a q:Int}{k:Nat}{l:List Int}{S S1:zA0} (i0:oIx nd (.int 0) S=.ok (.int sw) S) (e1:c "settings" [.int sw] S=.ok (.lst k) S1) (e2:fLen [.lst k] S1=.ok (.int q) S1) (m:oMul (.tup [.int 1]) (.int q) S1=.ok (zA4 l) S1) :
  zHO c [some nd,some (.int a),some (.int a),none,none] S=.rt (zA4 l) S1:=by
 simp [zHO,i0,e1,e2,m]
theorem zTB (c:CLL) {nd fd:D}{sw a b x y:Int}{R M:List D}{S S1 S2:zA0} (hab:¬ a=b) (hx:(if b<a then b else a)=x) (hy:(if b>a then b else a)=y) (i0:∀ S,oIx nd (.int 0) S=.ok (.int sw) S) (i2:∀ S,oIx nd (.int 2) S=.ok (.tup R) S) (hl:R.length<lim) (e1:zAq [] .one (zGR c) (zGS c) [none,some (.tup [.int x,.int y])] R S=.ok M S) (h1:S++[.lst M]=S1) (t1:zAh [.lst S.length] S1=.ok (.tup M) S1) (e2:c "function_of" [.tup [.int sw,.int 2,.tup M]] S1=.ok fd S2) :
  zHO c [some nd,some (.int a),some (.int b),none,none] S=.rt fd S2:=by
 simp [zHO,hab,hx,hy,i0,i2,hl,e1,h1,t1,e2]
theorem zOV (h:zHV cl) (F:HF cl) (n:Nat) {N:Net} (ok:N.g) (a b:Int) (S:zA0):Spc (cl (n+5) "tied" [N.d,.int a,.int b] S) ((zA4 (tieL N a b))) S:=by
 rw [show n+5=(n+4)+1 from rfl,h]
 by_cases hab:a=b
 ·subst hab
  obtain ⟨k,S1,e1,x1,_,lk⟩:=F.setts (n+3) ok S
  have e2:=zDD lk
  rw [qA2,zBI] at e2
  rw [zOX]
  exact ⟨S1,zAa rfl (zTC _ (by unfold Net.d; simp) e1 e2 (zMS ok.s1 ok.s2 rfl 1 S1)),x1⟩
 ·obtain ⟨x,hx⟩:∃ x,(if b<a then b else a)=x:=⟨_,rfl⟩
  obtain ⟨y,hy⟩:∃ y,(if b>a then b else a)=y:=⟨_,rfl⟩
  have e1:zAq [] .one (zGR (cl (n+4))) (zGS (cl (n+4))) [none,some (.tup [.int x,.int y])] (N.cs.map Ct.d) S=.ok ((netB N x y).cs.map Ct.d) S:=by
   have e:=zBF Ct.d (w:=[]) (t:=.one) (tc:=zGR (cl (n+4))) (c:=zGS (cl (n+4))) (ρ0:=[none,some (.tup [.int x,.int y])]) (zAp S) (fun c=>eqB (D.tup [.int c.a,.int c.b]) (.tup [.int x,.int y])) (fun c=>D.tup [.int 0,.int 1,.int c.k,.int c.o]) N.cs (fun c _=>by
    refine ⟨[some c.d,some (.tup [.int x,.int y])],rfl,?_,fun _=>?_⟩
    ·have p:∀ u v:Int,plain 40 (D.tup [.int u,.int v])=true:=fun u v=>zC0 (n:=39) (fun z hz=>by simp at hz; rcases hz with rfl | rfl <;> exact zF8 (by decide) _)
     have q:=zKn S (p c.a c.b) (p x y)
     have c1:cutD [.int c.a,.int c.b,.int c.k,.int c.o] none (some 2)=[.int c.a,.int c.b]:=rfl
     unfold Ct.d
     simp [zGR,c1,q]
    ·have c2:cutD [.int c.a,.int c.b,.int c.k,.int c.o] (some 2) none=[.int c.k,.int c.o]:=rfl
     have hlim:4≤lim:=by decide
     unfold Ct.d
     simp [zGS,c2,hlim])
   rw [e]
   show _=R.ok (List.map Ct.d (List.map _ _)) S
   rw [qC0]; rfl
  obtain ⟨S1,h1⟩:∃ S1,S++[O.lst ((netB N x y).cs.map Ct.d)]=S1:=⟨_,rfl⟩
  have x1:Ex S S1:=by rw [← h1]; exact zA7 _ _
  obtain ⟨S2,e2,x2⟩:=zDK F.fo F.le F.jo F.pf F.sc F.is F.se n (N:=netB N x y) (by show 0≤N.sw; have:=ok.s1; omega) ok.s2 (by
   show ((N.cs.filter _).map _).length≤100
   rw [qA2]
   have:=qD9 (fun c=>eqB (D.tup [.int c.a,.int c.b]) (.tup [.int x,.int y])) N.cs
   have:=ok.len (by decide)
   omega) (fun c hc=>by
    obtain ⟨c',_,rfl⟩:=qA9.mp hc
    show ((0:Int)≤0∧(0:Int)<7)∧(0:Int)≤1∧(1:Int)<7
    decide) (fun c hc=>by
    obtain ⟨c',hc',rfl⟩:=qA9.mp hc
    exact ok.k2 c' (zJg.mp hc').1) S1
  refine ⟨S2,zAa rfl ?_,x1.trans x2⟩
  have ef:funP (netB N x y)=tieL N a b:=by rw [← hx,← hy]; exact zSB ok hab
  rw [ef] at e2
  have hl:(N.cs.map Ct.d).length<lim:=by rw [qA2,zB0]; have:=ok.len (by decide); omega
  exact zTB (sw:=N.sw) _ hab hx hy (fun S=>by unfold Net.d; simp) (fun S=>by unfold Net.d; simp) hl e1 h1 (by rw [← h1]; exact zAg (zA3 _ _)) e2
theorem zVW (c:CLL) {nd:D}{pl a:Int}{m:Nat}{R:List D}{S S1 S2:zA0} (i1:oIx nd (.int 1) S=.ok (.int pl) S) (f1:-4611686018427387904≤pl) (f2:pl<4611686018427387904) (ta:pl.toNat=m) (hm:(upD 0 m).length<lim) (e1:zAq [] .one (fun _=>ret true) (zDw c) [none,some nd,some (.int a)] (upD 0 m) S=.ok R S1) (h1:S1++[.lst R]=S2) (t1:zAh [.lst S1.length] S2=.ok (.tup R) S2) :
  zDo c [some nd,some (.int a)] S=.rt (.tup R) S2:=by
 simp [zDo,i1,f1,f2,ta,hm,e1,h1,t1]
theorem zVY (c:CLL) {nd:D}{pl:Int}{m:Nat}{R:List D}{S S1 S2:zA0} (i1:oIx nd (.int 1) S=.ok (.int pl) S) (f1:-4611686018427387904≤pl) (f2:pl<4611686018427387904) (ta:pl.toNat=m) (hm:(upD 0 m).length<lim) (e1:zAq [] .one (fun _=>ret true) (zDx c) [none,some nd] (upD 0 m) S=.ok R S1) (h1:S1++[.lst R]=S2) (t1:zAh [.lst S1.length] S2=.ok (.tup R) S2) :
  zDp c [some nd] S=.rt (.tup R) S2:=by
 simp [zDp,i1,f1,f2,ta,hm,e1,h1,t1]
theorem zJ0 (h:zDH cl) (ht:zHV cl) (F:HF cl) (n:Nat) {N:Net} (ok:N.g) (a:Int) (S:zA0):Spc (cl (n+6) "tied_row" [N.d,.int a] S) ((rowD ((List.range N.pl.toNat).map fun (b:Nat)=>tieL N a b))) S:=by
 rw [show n+6=(n+5)+1 from rfl,h]
 have p1:=ok.p1
 have p2:=ok.p2
 obtain ⟨S1,e1,x1⟩:=zDl (fun (b:Nat)=>D.int (b:Nat)) (w:=[]) (t:=.one) (c:=zDw (cl (n+5))) (ρ0:=[none,some N.d,some (.int a)]) (fun S'=>Ex S S') (fun _ _=>zAp _) (fun (b:Nat)=>zA4 (tieL N a b)) (List.range N.pl.toNat) (Kp.refl _ _)
  (fun b hb S' x=>by
   obtain ⟨S2,e2,x2⟩:=zOV ht F n ok a (b:Nat) S'
   exact ⟨_,rfl,S2,by generalize N.d=nd at *; simp [zDw]; exact e2,x.trans x2⟩)
 rw [← zSV] at e1
 have er:(List.range N.pl.toNat).map (fun (b:Nat)=>zA4 (tieL N a b))=((List.range N.pl.toNat).map fun (b:Nat)=>tieL N a b).map zA4:=by rw [qC0]; rfl
 rw [er] at e1
 obtain ⟨S2,h2⟩:∃ S2,S1++[O.lst (((List.range N.pl.toNat).map fun (b:Nat)=>tieL N a b).map zA4)]=S2:=⟨_,rfl⟩
 have x2:Ex S1 S2:=by rw [← h2]; exact zA7 _ _
 exact ⟨S2,zAa rfl (zVW _ (by unfold Net.d; simp) (by omega) (by omega) rfl (by rw [zBL,zB0]; omega) e1 h2 (by rw [← h2]; exact zAg (zA3 _ _))),x1.trans x2⟩
theorem zJ1 (h:zF0 cl) (hr:zDH cl) (ht:zHV cl) (F:HF cl) (n:Nat) {N:Net} (ok:N.g) (S:zA0):Spc (cl (n+7) "table_of" [N.d] S) ((tD (tieT N))) S:=by
 rw [show n+7=(n+6)+1 from rfl,h]
 have p1:=ok.p1
 have p2:=ok.p2
 obtain ⟨S1,e1,x1⟩:=zDl (fun (b:Nat)=>D.int (b:Nat)) (w:=[]) (t:=.one) (c:=zDx (cl (n+6))) (ρ0:=[none,some N.d]) (fun S'=>Ex S S') (fun _ _=>zAp _) (fun (a:Nat)=>rowD ((List.range N.pl.toNat).map fun (b:Nat)=>tieL N a b)) (List.range N.pl.toNat) (Kp.refl _ _)
  (fun a ha S' x=>by
   obtain ⟨S2,e2,x2⟩:=zJ0 hr ht F n ok (a:Nat) S'
   exact ⟨_,rfl,S2,by generalize N.d=nd at *; simp [zDx]; exact e2,x.trans x2⟩)
 rw [← zSV] at e1
 have er:(List.range N.pl.toNat).map (fun (a:Nat)=>rowD ((List.range N.pl.toNat).map fun (b:Nat)=>tieL N a b))=(tieT N).map rowD:=by unfold tieT; rw [qC0]; rfl
 rw [er] at e1
 obtain ⟨S2,h2⟩:∃ S2,S1++[O.lst ((tieT N).map rowD)]=S2:=⟨_,rfl⟩
 have x2:Ex S1 S2:=by rw [← h2]; exact zA7 _ _
 exact ⟨S2,zAa rfl (zVY _ (by unfold Net.d; simp) (by omega) (by omega) rfl (by rw [zBL,zB0]; omega) e1 h2 (by rw [← h2]; exact zAg (zA3 _ _))),x1.trans x2⟩
noncomputable def orL (l m:List Int):List Int:=(l.zip m).map fun p=>if 0<p.1+p.2 then 1 else 0
theorem zBq (N:Net):(tieT N).length=N.pl.toNat:=by unfold tieT; rw [qA2,qF3]
theorem zRs (N:Net) {a:Nat} (ha:a<N.pl.toNat):(tieT N).getD a []=(List.range N.pl.toNat).map fun (b:Nat)=>tieL N a b:=by
 unfold tieT
 rw [qB3,qA6,qC8 ha]; rfl
theorem zMC (N:Net) {a b:Nat} (ha:a<N.pl.toNat) (hb:b<N.pl.toNat):ent (tieT N) a b=tieL N a b:=by
 unfold ent
 rw [zRs N ha,qB3,qA6,qC8 hb]; rfl
theorem zRt (N:Net) (a b:Int):(tieL N a b).length=2 ^ N.sw.toNat:=by unfold tieL; rw [qA2,zBI]
theorem zOY (N:Net) (a b:Int):∀ x∈tieL N a b,0≤x∧x<2:=fun x hx=>by
 obtain ⟨st,_,rfl⟩:=qA9.mp hx
 split <;> decide
theorem zGE {N:Net} (ok:N.g):okT N.sw (tieT N):=by
 have p1:=ok.p1
 have p2:=ok.p2
 refine ⟨by rw [zBq]; omega,by rw [zBq]; omega,fun r hr=>?_⟩
 rw [zBq]
 obtain ⟨a,_,rfl⟩:=qA9.mp hr
 refine ⟨by rw [qA2,qF3],fun l hl=>?_⟩
 obtain ⟨b,_,rfl⟩:=qA9.mp hl
 exact ⟨zRt N _ _,zOY N _ _⟩
noncomputable def sE (x:Str):D→Bool
 | .str y=>decide (y=x)
 | _=>false
def Sn (d:D):Prop:=∃ p,(∀ S,snap 40 S d=some p)∧(∀ x,p=.str x→d=.str x)∧(isS d=false→flat d=none→∃ xs,d=.tup xs)
theorem zOf {p:PyData}{x:Str} (h:∀ y,p≠.str y):PyData.eqv p (.str x)=false∧PyData.eqv (.str x) p=false:=by
 cases p with
 | str y=>exact absurd rfl (h y)
 | _=>exact ⟨rfl,rfl⟩
theorem ne_str {d:D}{x:Str} (h:Sn d) (hx:PyData.strOk x=true) (S:zA0):oEq d (.str x) S=.ok (.bl (sE x d)) S∧oNe d (.str x) S=.ok (.bl (!sE x d)) S:=by
 obtain ⟨p,h1,h2,_⟩:=h
 cases d with
 | str y=>exact ⟨rfl,rfl⟩
 | _ =>
  have hp:∀ y,p≠.str y:=fun y e=>by have:=h2 y e; cases this
  have hs:snap 40 S (.str x)=some (.str x):=by unfold snap; dsimp only; rw [if_pos hx]
  have:=(zOf (x:=x) hp).1
  unfold oEq oNe
  dsimp only
  rw [h1 S,hs]
  dsimp only
  rw [this]
  exact ⟨rfl,rfl⟩
noncomputable def andL (l m:List Int):List Int:=(l.zip m).map fun p=>p.1*p.2
theorem zIQ {x:Int} (h:0≤x∧x<2):x=0∨x=1:=by omega
theorem zaU (c:CLL) {x y:Int} (hx:x=0∨x=1) (hy:y=0∨y=1) (S:zA0):zCB c [some (.int x),some (.int y)] S=.ok (.int (x*y)) S:=by
 rcases hx with rfl | rfl <;> rcases hy with rfl | rfl <;> simp [zCB] <;> rfl
theorem or_e (c:CLL) {x y:Int} (hx:x=0∨x=1) (hy:y=0∨y=1) (S:zA0):zBS c [some (.int x),some (.int y)] S=.ok (.int (if 0<x+y then 1 else 0)) S:=by
 rcases hx with rfl | rfl <;> rcases hy with rfl | rfl <;> simp [zBS] <;> rfl
theorem zVO {e:C}{X Y R:List D}{S S1:zA0} (hl:(zipD X Y).length<lim) (e1:zAq [] (.many 2) (fun _=>ret true) e [none,none] (zipD X Y) S=.ok R S) (h1:S++[.lst R]=S1) (t:zAh [.lst S.length] S1=.ok (.tup R) S1) :
  (sSeq (sRet (cApp zAh (zA1 [(zBe (zI2 (zA1 [(cVar 0),(cVar 1)])) 2 [] (.many 2) (fun _=>ret true) e)]))) zA5) [some (.tup X),some (.tup Y)] S=.rt (.tup R) S1:=by
 simp [hl,e1,h1,t]
theorem zOE {e:C} (f:Int→Int→Int) (l m:List Int) (hl:l.length≤16) (S:zA0) (he:∀ p∈l.zip m,e [some (.int p.1),some (.int p.2)] S=.ok (.int (f p.1 p.2)) S) :
  ∃ S1,(sSeq (sRet (cApp zAh (zA1 [(zBe (zI2 (zA1 [(cVar 0),(cVar 1)])) 2 [] (.many 2) (fun _=>ret true) e)]))) zA5) [some (zA4 l),some (zA4 m)] S=.rt (zA4 ((l.zip m).map fun p=>f p.1 p.2)) S1∧Ex S S1:=by
 have z:zipD (l.map D.int) (m.map D.int)=(l.zip m).map fun p=>.tup [.int p.1,.int p.2]:=by
  unfold zipD
  rw [List.zip_map,qC0]; rfl
 have e1:zAq [] (.many 2) (fun _=>ret true) e [none,none] (zipD (l.map D.int) (m.map D.int)) S=.ok (((l.zip m).map fun p=>f p.1 p.2).map D.int) S:=by
  rw [z,qC0]
  exact zCh (fun (p:Int × Int)=>D.tup [.int p.1,.int p.2]) (zAp _) _ _ fun p hp=>⟨[some (.int p.1),some (.int p.2)],rfl,he p hp⟩
 obtain ⟨S1,h1⟩:∃ S1,S++[O.lst (((l.zip m).map fun p=>f p.1 p.2).map D.int)]=S1:=⟨_,rfl⟩
 refine ⟨S1,zVO ?_ e1 h1 (by rw [← h1]; exact zAg (zA3 _ _)),by rw [← h1]; exact zA7 _ _⟩
 rw [z,qA2,qG8,zB0]; omega
def bts (l:List Int):Prop:=∀ i∈l,0≤i∧i<2
theorem zGN {l m:List Int} (hl:bts l) (hm:bts m) {p:Int × Int} (hp:p∈l.zip m):(p.1=0∨p.1=1)∧(p.2=0∨p.2=1):=by
 have:=qI6 (a:=p.1) (b:=p.2) hp
 exact ⟨zIQ (hl _ this.1),zIQ (hm _ this.2)⟩
theorem zGO (h:zDG cl) (n:Nat) {l m:List Int} (hl:l.length≤16) (bl:bts l) (bm:bts m) (S:zA0):Spc (cl (n+1) "where_both" [zA4 l,zA4 m] S) (zA4 (andL l m)) S:=by
 obtain ⟨S1,e,x⟩:=zOE (e:=zCB (cl n)) (fun x y=>x*y) l m hl S fun p hp=>zaU _ (zGN bl bm hp).1 (zGN bl bm hp).2 S
 exact ⟨S1,by rw [h]; exact zAa rfl e,x⟩
theorem zFA (h:zCS cl) (n:Nat) {l m:List Int} (hl:l.length≤16) (bl:bts l) (bm:bts m) (S:zA0):Spc (cl (n+1) "where_either" [zA4 l,zA4 m] S) (zA4 (orL l m)) S:=by
 obtain ⟨S1,e,x⟩:=zOE (e:=zBS (cl n)) (fun x y=>if 0<x+y then 1 else 0) l m hl S fun p hp=>or_e _ (zGN bl bm hp).1 (zGN bl bm hp).2 S
 exact ⟨S1,by rw [h]; exact zAa rfl e,x⟩
theorem zJC {sw:Int}{l m:List Int} (hl:okF sw l) (hm:okF sw m):okF sw (andL l m):=by
 refine ⟨by unfold andL; rw [qA2,qG8,hl.1,hm.1,Nat.min_self],fun i hi=>?_⟩
 obtain ⟨p,hp,rfl⟩:=qA9.mp hi
 obtain ⟨a,b⟩:=zGN hl.2 hm.2 hp
 rcases a with a | a <;> rcases b with b | b <;> rw [a,b] <;> decide
theorem orL_ok' {sw:Int}{l m:List Int} (hl:okF sw l) (hm:okF sw m):okF sw (orL l m):=by
 refine ⟨by unfold orL; rw [qA2,qG8,hl.1,hm.1,Nat.min_self],fun i hi=>?_⟩
 obtain ⟨p,hp,rfl⟩:=qA9.mp hi
 split <;> decide
theorem zPH {sw:Int} (h4:sw≤4) {l:List Int} (h:okF sw l):l.length≤16:=by
 rw [h.1]
 have:sw.toNat≤4:=by omega
 exact qC6 (qL9 (by decide) this) (by decide)
theorem zPO {S:zA0}{q:Nat}{l:List Int} (h:zA6 S q=some (l.map D.int)) (neg:Bool) (a:Int):oIn neg (.int a) (.lst q) S=.ok (.bl (if neg then !decide (a∈l) else decide (a∈l))) S:=by
 have e:zJ5 S (.lst q)=some (l.map D.int):=h
 unfold oIn
 dsimp only
 rw [e]
 show (match (l.map D.int).mapM flat with | some vs=>R.ok (D.bl (if neg then !inV (.int a) vs else inV (.int a) vs)) S | none=>.bad)=_
 rw [zII]
 dsimp only
 rw [zN7]
theorem zH5 {S:zA0}{xs:List D} (h:xs.all (plain 39)=true):oNe (.lst S.length) (.lst (S++[O.lst xs]).length) (S++[O.lst xs]++[O.lst xs])=.ok (.bl false) (S++[O.lst xs]++[O.lst xs]):=by
 rw [zPM (zCs (zA3 S xs)) (zA3 _ xs) h h,show eqB xs xs=true from zCg.mpr rfl]; rfl
theorem zGb (l:List Int):(l.map D.int).all (plain 39)=true:=qE5.mpr fun x hx=>by
 obtain ⟨i,_,rfl⟩:=qA9.mp hx; rfl
theorem zFW (l:List Int) (S:zA0):oEq (zA4 l) (zA4 l) S=.ok (.bl true) S∧oNe (zA4 l) (zA4 l) S=.ok (.bl false) S:=by
 have p:=zNO (n:=39) (by decide) l
 have e:eqB (zA4 l) (zA4 l)=true:=zCg.mpr rfl
 refine ⟨by rw [zKn S p p,e],by rw [zFa S p p,e]; rfl⟩
theorem zWg (c:CLL) {nd nn nt sd lo ld:D}{sw:Int}{X U R Ks Y Ls:List D}{w5:Option D}{S S1 S2 S3 S4 S5 S6 S7 S8 S9 S10 S11 S12 S13 S14 S15 S16 S17 S18 S19:zA0} (i0:∀ S,oIx nd (.int 0) S=.ok (.int sw) S) (i2:∀ S,oIx nd (.int 2) S=.ok (.tup R) S) (b1:-4611686018427387904≤sw) (b2:sw<4611686018427387904) (lu:(upD 0 sw.toNat).length<lim) (lX:X.length<lim) (lR:R.length<lim) (lU:U.length<lim)
  (e1:c "turn_counts" [nd] S=.ok (.tup X) S1) (c6:zAq [] .one (zAk c) (zAU c) [none] X S1=.ok [] S1) (h2:S1++[O.lst []]=S2) (h3:S2++[O.lst []]=S3) (q6:oNe (.lst S1.length) (.lst S2.length) S3=.ok (.bl false) S3)
  (e7:c "used" [nd] S3=.ok (.tup U) S4) (c5:zAq [] .one (zAF c) (zAH c) [none,some (.tup X)] (upD 0 sw.toNat) S4=.ok U S4) (h5:S4++[O.lst U]=S5) (t5:zAh [.lst S4.length] S5=.ok (.tup U) S5) (q5:oNe (.tup U) (.tup U) S5=.ok (.bl false) S5)
  (c4:zAq [] .one (fun _=>ret true) (zAI c) [none] R S5=.ok Ks S5) (h6:S5++[O.lst Ks]=S6) (e8:c "used" [nd] S6=.ok (.tup U) S7) (c3:zAq [] .one (zAl c) (zAn c) [none,some (.lst S5.length)] U S7=.ok [] S7) (h8:S7++[O.lst []]=S8) (h9:S8++[O.lst []]=S9) (q3:oNe (.lst S7.length) (.lst S8.length) S9=.ok (.bl false) S9)
  (h10:S9++[O.lst []]=S10) (e10:zBC [] (gN 5) (zAm c) (upD 0 sw.toNat) [some sd,some nd,some (.tup X),some (.lst S5.length),some (.lst S9.length),none,none,none] S10=.nx [some sd,some nd,some (.tup X),some (.lst S5.length),some (.lst S9.length),w5,none,none] S11) (t11:zAh [.lst S9.length] S11=.ok lo S11)
  (e11:c "named" [nd,lo] S11=.ok nn S12) (e12:c "turn_counts" [nn] S12=.ok (.tup Y) S13) (c2:zAq [] .one (fun _=>ret true) (zAJ c) [none,some (.tup Y),some (.lst S9.length)] (upD 0 sw.toNat) S13=.ok X S13) (h14:S13++[O.lst X]=S14) (h15:S14++[O.lst X]=S15) (q2:oNe (.lst S13.length) (.lst S14.length) S15=.ok (.bl false) S15)
  (c1:zAq [] .one (zAG c) (zAo c) [none,some sd] (upD 0 sw.toNat) S15=.ok Ls S16) (h17:S16++[O.lst Ls]=S17) (t17:zAh [.lst S16.length] S17=.ok ld S17) (e13:c "turned" [nd,ld] S17=.ok nt S18) (e14:c "turn_counts" [nt] S18=.ok (.tup X) S19) (q1:oEq (.tup X) (.tup X) S19=.ok (.bl true) S19) :
  zAO c [some sd,some nd,none,none,none,none,none,none] S=.rt (.bl true) S19:=by
 have s0:∀ ρ:Env1,stE 1 [] ρ=[none]:=fun _=>rfl
 have s2:stE 1 [2] [some sd,some nd,some (D.tup X),none,none,none,none,none]=[none,some (.tup X)]:=rfl
 have s3:stE 1 [3] [some sd,some nd,some (D.tup X),some (.lst S5.length),none,none,none,none]=[none,some (.lst S5.length)]:=rfl
 have s64:stE 1 [6,4] [some sd,some nd,some (D.tup X),some (.lst S5.length),some (.lst S9.length),w5,some (.tup Y),none]=[none,some (.tup Y),some (.lst S9.length)]:=rfl
 have s00:stE 1 [0] [some sd,some nd,some (D.tup X),some (.lst S5.length),some (.lst S9.length),w5,some (.tup Y),none]=[none,some sd]:=rfl
 simp [zAO,i0,i2,b1,b2,lu,lX,lR,lU,e1,s0,c6,h2,h3,q6,e7,s2,c5,h5,t5,q5,c4,h6,e8,s3,c3,h8,h9,q3,h10,e10,t11,e11,e12,s64,c2,h14,h15,q2,s00,c1,h17,t17,e13,e14,q1]
structure HSr (cl:Nat→CLL):Prop where
 s:HSw cl
 ta:zBp cl
 na:zJE cl
 nc:zBK cl
 tu:zHU cl
 tc:zBr cl
 sr:zCv cl
theorem zas {N:Net} (ok:N.g) {lo:List Int} (O:Ord N.sw.toNat lo):(⟨N.sw,N.pl,N.cs.map (zE0 lo)⟩:Net).g:=by
 refine ⟨ok.s1,ok.s2,ok.p1,ok.p2,by show ((N.cs.map _).length:Int)≤16; rw [qA2]; exact ok.c1,fun c hc=>?_⟩
 obtain ⟨c0,h0,rfl⟩:=qA9.mp hc
 obtain ⟨a0,ab,bp,k0,k1,o0,o1⟩:=ok.c2 c0 h0
 have r:=O.rg c0.k.toNat (by omega)
 have s1:=ok.s1
 exact ⟨a0,ab,bp,r.1,by show lo.getD c0.k.toNat 0<N.sw; omega,o0,o1⟩
theorem zar {N:Net} (ok:N.g) (l:List Int):(⟨N.sw,N.pl,N.cs.map (zD3 l)⟩:Net).g:=by
 refine ⟨ok.s1,ok.s2,ok.p1,ok.p2,by show ((N.cs.map _).length:Int)≤16; rw [qA2]; exact ok.c1,fun c hc=>?_⟩
 obtain ⟨c0,h0,rfl⟩:=qA9.mp hc
 obtain ⟨a0,ab,bp,k0,k1,o0,o1⟩:=ok.c2 c0 h0
 unfold zD3
 split
 ·exact ⟨a0,ab,bp,k0,k1,by show 0≤1 - c0.o; omega,by show 1 - c0.o<2; omega⟩
 ·exact ⟨a0,ab,bp,k0,k1,o0,o1⟩
theorem zP8 (c:CLL) {x:Int}{S:zA0} (h:x % 2=0):zAk c [some (.int x)] S=.ok false S:=by simp [zAk,h]
theorem zP9 (c:CLL) {X:List D}{k v:Int}{b:Bool}{S:zA0} (i:atI X k=some (.int v)) (h:decide (0<v)=b):zAF c [some (.int k),some (.tup X)] S=.ok b S:=by simp [zAF,i,h]
theorem zJU (c:CLL) {d:D}{v:Option D}{S:zA0}:zAH c [some d,v] S=.ok d S∧zAn c [some d,v] S=.ok d S∧zAo c [some d,v] S=.ok d S:=⟨by simp [zAH],by simp [zAn],by simp [zAo]⟩
theorem zPb (c:CLL) (ct:Ct) {S:zA0}:zAI c [some ct.d] S=.ok (.int ct.k) S:=by
 have:ct.d=.tup [.int ct.a,.int ct.b,.int ct.k,.int ct.o]:=rfl
 rw [this]
 simp [zAI]
theorem zPa (c:CLL) {k:Int}{q:Nat}{l:List Int}{S:zA0} (h:zA6 S q=some (l.map D.int)) (hm:k∈l):zAl c [some (.int k),some (.lst q)] S=.ok false S:=by
 have:=zPO h true k
 simp [zAl,this,hm]
theorem zPc (c:CLL) {Y:List D}{q:Nat}{k a v:Int}{L:List D}{S:zA0} (l:zA6 S q=some L) (i1:atI L k=some (.int a)) (i2:atI Y a=some (.int v)):zAJ c [some (.int k),some (.tup Y),some (.lst q)] S=.ok (.int v) S:=by
 have:=zFJ l k
 rw [i1] at this
 simp [zAJ,this,i2]
inductive OrI (sd nd xd kd:D) (i q:Nat) (S0:zA0) (j:Nat) (ρ:Env1) (S:zA0):Prop
 | mk (w5:Option D) (l:List Int) (e:ρ=[some sd,some nd,some xd,some kd,some (.lst q),w5,none,none]) (h:zA6 S q=some (l.map D.int)) (hl:l.length=j) (hp:l.Perm ((List.range j).map fun (k:Nat)=>(k:Int))) (k:Kp (·=i) S0 S) (st:StOk S i)
theorem or_l (c:CLL) {nd xd kd:D}{i q:Nat}{jj r jp:Int}{B:List D}{w:Option D}{S S2:zA0} (hj:jj+1=jp) (t1:tyOk "list" (.lst q) S=true) (e2:c "_law_take" [.lst i,.int jp] S=.ok (.int r) S2) (m2:zDz zDC (.lst q) [.int r,.int jj] S2=.ok .non (S2.set q (.lst B))) :
  zAm c [some (.lst i),some nd,some xd,some kd,some (.lst q),some (.int jj),none,none] S=.nx [some (.lst i),some nd,some xd,some kd,some (.lst q),some (.int jj),none,none] (S2.set q (.lst B)):=by
 simp [zAm,t1,hj,e2,m2]
theorem zUA (H:HSr cl) (n:Nat) {nd xd kd:D}{S:zA0}{i:Nat} (hS:StOk S i) {m:Int} (m0:0≤m) (m1:m≤100):∃ (w5:Option D) (l:List Int) (S1:zA0),zBC [] (gN 5) (zAm (cl (n+1))) (upD 0 m.toNat) [some (.lst i),some nd,some xd,some kd,some (.lst S.length),none,none,none] (S++[.lst []])=.nx [some (.lst i),some nd,some xd,some kd,some (.lst S.length),w5,none,none] S1 ∧
  zA6 S1 S.length=some (l.map D.int)∧l.Perm ((List.range m.toNat).map fun (k:Nat)=>(k:Int))∧Kp (·=i) S S1∧StOk S1 i:=by
 have li:S.length≠i:=by have:=hS.lt; omega
 obtain ⟨ρ',S1,e1,w5,l,rfl,l1,hl,hp,kp,st⟩:=zBd (w:=[]) (g:=gN 5) (b:=zAm (cl (n+1))) (items:=upD 0 m.toNat) (OrI (.lst i) nd xd kd i S.length S)
  (ρ:=[some (.lst i),some nd,some xd,some kd,some (.lst S.length),none,none,none]) (S:=S++[.lst []])
  (fun j ρ S' hp=>zAp _) ⟨none,[],rfl,zA3 _ _,rfl,List.Perm.refl _,(zA7 _ _).kp,hS.ex (zA7 _ _)⟩
  (fun j d ρ S' hd hp=>by
   obtain ⟨w5,l,rfl,l1,hl,hpm,kp,st⟩:=hp
   rw [zEI] at hd
   obtain ⟨hj,rfl⟩:=hd
   obtain ⟨r,S2,e2,r0,r1,k2,n2,st2⟩:=zAE H.ta n st (m:=(0+(j:Int))+1) (by omega) (by omega)
   have l2:=k2.lst l1 li
   have t1:=zCl l1
   have m2:=zEq l2 zDC [.int r,.int (0+(j:Int))]
   have q:(l.map D.int).length<1000∧0≤r∧r.toNat≤(l.map D.int).length:=by rw [qA2]; omega
   rw [zO7,if_pos q] at m2
   dsimp only at m2
   have ei:(l.map D.int).take r.toNat++D.int (0+(j:Int))::(l.map D.int).drop r.toNat=(l.take r.toNat++(0+(j:Int))::l.drop r.toNat).map D.int:=by simp
   rw [ei] at m2
   refine ⟨_,_,rfl,_,S2.set S.length (.lst ((l.take r.toNat++(0+(j:Int))::l.drop r.toNat).map D.int)),.inl (or_l _ (w:=w5) rfl t1 e2 m2),⟨some (.int (0+(j:Int))),l.take r.toNat++(0+(j:Int))::l.drop r.toNat,rfl,zC1 l2,by simp; omega,?_,(kp.trans k2).setNew (qB0 _),st2.setO li⟩⟩
   rw [qM1,qE4,qK8]
   have p1:(l.take r.toNat++(j:Int)::l.drop r.toNat).Perm ((j:Int)::(l.take r.toNat++l.drop r.toNat)):=List.perm_middle
   rw [qL0] at p1
   refine p1.trans ((List.Perm.cons _ hpm).trans ?_)
   show List.Perm _ (_++[(j:Int)])
   exact (qM6 _ _).symm)
 rw [zBL] at hp
 exact ⟨w5,l,S1,e1,l1,hp,kp,st⟩
inductive SrR (r:R D) (S:zA0) (i:Nat):Prop
 | mk (S1:zA0) (e:r=.ok (.bl true) S1) (k:Kp (·=i) S S1) (st:StOk S1 i)
theorem zJN {N:Net}{m k:Nat} (h:k<m):atI ((zCc N m).map D.int) ((k:Nat):Int)=some (.int ((zCY N k:Nat):Int)):=by
 refine zCQ ?_
 unfold zCc
 rw [qC0,qA6,qC8 h]; rfl
theorem zHY (H:HSr cl) (n:Nat) {N:Net} (ok:N.g) {S:zA0}{i:Nat} (hS:StOk S i):SrR (cl (n+7) "_law_switches_right" [.lst i,N.d] S) S i:=by
 have s1:=ok.s1
 have s4:=ok.s2
 have hc100:N.cs.length≤100:=ok.len (by decide)
 obtain ⟨m,hm⟩:∃ m:Nat,m=N.sw.toNat:=⟨_,rfl⟩
 have hsw:N.sw=(m:Int):=by omega
 obtain ⟨S1,e1,x1⟩:=zBH H.s (n+1) ok S
 rw [← hm] at e1
 have lX:((zCc N m).map D.int).length<lim:=by rw [qA2,zJM,zB0]; omega
 have kn:∀ k:Nat,k∈List.range m→(k:Int)<N.sw:=fun k hk=>by have:=qB5.mp hk; omega
 have c6:zAq [] .one (zAk (cl (n+6))) (zAU (cl (n+6))) [none] ((zCc N m).map D.int) S1=.ok [] S1:=by
  have:=zBF D.int (w:=[]) (t:=.one) (tc:=zAk (cl (n+6))) (c:=zAU (cl (n+6))) (ρ0:=[none]) (zAp S1) (fun _=>false) D.int (zCc N m) fun x hx=>by
   refine ⟨_,rfl,zP8 _ ?_,fun z=>by cases z⟩
   obtain ⟨k,hk,rfl⟩:=qA9.mp hx
   have:=zOT ok (kn k hk)
   omega
  rw [this]
  rw [show (zCc N m).filter (fun _=>false)=[] from qG2.mpr fun _ _=>by simp]; rfl
 obtain ⟨S2,h2⟩:∃ S2,S1++[O.lst []]=S2:=⟨_,rfl⟩
 obtain ⟨S3,h3⟩:∃ S3,S2++[O.lst []]=S3:=⟨_,rfl⟩
 have q6:oNe (.lst S1.length) (.lst S2.length) S3=.ok (.bl false) S3:=by rw [← h3,← h2]; exact zH5 rfl
 have x3:Ex S1 S3:=h3▸h2▸(zA7 _ _).trans (zA7 _ _)
 obtain ⟨S4,e7,x4⟩:=zJL H.s n ok S3
 have ul:(zBk (zEy N)).length<lim:=by
  unfold zBk zEy; rw [qA2,zB0]
  have:=qD9 (fun k=>decide (0<zCY N k)) (List.range N.sw.toNat)
  rw [qF3] at this; omega
 have c5:zAq [] .one (zAF (cl (n+6))) (zAH (cl (n+6))) [none,some (.tup ((zCc N m).map D.int))] (upD 0 N.sw.toNat) S4=.ok (zBk (zEy N)) S4:=by
  have e:upD 0 N.sw.toNat=(List.range N.sw.toNat).map fun (k:Nat)=>D.int ((k:Nat):Int):=by
   show (List.range _).map _=_
   exact qD5 fun k _=>by rw [qK8]
  rw [e]
  unfold zEy zBk
  refine zBF (fun (k:Nat)=>D.int ((k:Nat):Int)) (zAp S4) (fun k=>decide (0<zCY N k)) (fun k=>D.int ((k:Nat):Int)) _ fun k hk=>⟨_,rfl,zP9 _ (zJN (by rw [hm]; exact qB5.mp hk)) ?_,fun _=>(zJU _).1⟩
  rw [decide_eq_decide]; omega
 obtain ⟨S5,h5⟩:∃ S5,S4++[O.lst (zBk (zEy N))]=S5:=⟨_,rfl⟩
 have t5:zAh [.lst S4.length] S5=.ok (.tup (zBk (zEy N))) S5:=by rw [← h5]; exact zAg (zA3 _ _)
 have un:zBk (zEy N)=((zEy N).map fun k=>((k:Nat):Int)).map D.int:=by unfold zBk; rw [qC0]; rfl
 have q5:oNe (.tup (zBk (zEy N))) (.tup (zBk (zEy N))) S5=.ok (.bl false) S5:=by rw [un]; exact (zFW _ S5).2
 have x5:Ex S4 S5:=h5▸zA7 _ _
 have c4:zAq [] .one (fun _=>ret true) (zAI (cl (n+6))) [none] (N.cs.map Ct.d) S5=.ok ((N.cs.map fun c=>c.k).map D.int) S5:=by
  rw [qC0]
  exact zCh Ct.d (zAp S5) _ N.cs fun c _=>⟨_,rfl,zPb _ c⟩
 obtain ⟨S6,h6⟩:∃ S6,S5++[O.lst ((N.cs.map fun c=>c.k).map D.int)]=S6:=⟨_,rfl⟩
 have x6:Ex S5 S6:=h6▸zA7 _ _
 have l6:zA6 S6 S5.length=some ((N.cs.map fun c=>c.k).map D.int):=by rw [← h6]; exact zA3 _ _
 obtain ⟨S7,e8,x7⟩:=zJL H.s n ok S6
 have c3:zAq [] .one (zAl (cl (n+6))) (zAn (cl (n+6))) [none,some (.lst S5.length)] (zBk (zEy N)) S7=.ok [] S7:=by
  have:=zBF (fun (k:Nat)=>D.int ((k:Nat):Int)) (w:=[]) (t:=.one) (tc:=zAl (cl (n+6))) (c:=zAn (cl (n+6))) (ρ0:=[none,some (.lst S5.length)]) (zAp S7) (fun _=>false) (fun k=>D.int ((k:Nat):Int)) (zEy N) fun k hk=>by
   obtain ⟨k1,k2⟩:=qB2.mp hk
   rw [decide_eq_true_eq] at k2
   have kr:=qB5.mp k1
   refine ⟨_,rfl,zPa _ (x7.lst l6 fun z=>z) ?_,fun z=>by cases z⟩
   refine Classical.byContradiction fun no=>?_
   have:=zOQ ok (k:=k) (by omega) fun c hc e=>no (qA9.mpr ⟨c,hc,e⟩)
   omega
  rw [show (zEy N).filter (fun _=>false)=[] from qG2.mpr fun _ _=>by simp] at this
  exact this
 obtain ⟨S8,h8⟩:∃ S8,S7++[O.lst []]=S8:=⟨_,rfl⟩
 obtain ⟨S9,h9⟩:∃ S9,S8++[O.lst []]=S9:=⟨_,rfl⟩
 have q3:oNe (.lst S7.length) (.lst S8.length) S9=.ok (.bl false) S9:=by rw [← h9,← h8]; exact zH5 rfl
 have x9:Ex S7 S9:=h9▸h8▸(zA7 _ _).trans (zA7 _ _)
 have x09:=(((((x1.trans x3).trans x4).trans x5).trans x6).trans x7).trans x9
 obtain ⟨w5,lo,S11,e10,l11,hp,k11,st11⟩:=zUA H (n+5) (nd:=N.d) (xd:=.tup ((zCc N m).map D.int)) (kd:=.lst S5.length) (hS.ex x09) (m:=N.sw) (by omega) (by omega)
 have Oo:=zXc (by omega) hp
 obtain ⟨S12,e11,x12⟩:=zNU H.na H.nc (n+4) N hc100 lo (fun c hc=>by obtain ⟨_,_,_,a,b,_⟩:=ok.c2 c hc; have:=Oo.len; omega) S11
 have okN:=zas ok Oo
 obtain ⟨S13,e12,x13⟩:=zBH H.s (n+1) okN S12
 change cl (n+1+5) "turn_counts" _ S12=.ok (zA4 (zCc ⟨N.sw,N.pl,N.cs.map (zE0 lo)⟩ N.sw.toNat)) S13 at e12
 rw [← hm] at e12
 have ne9:¬ S9.length=i:=fun z=>by have:=(hS.ex x09).lt; omega
 have c2:zAq [] .one (fun _=>ret true) (zAJ (cl (n+6))) [none,some (.tup ((zCc ⟨N.sw,N.pl,N.cs.map (zE0 lo)⟩ m).map D.int)),some (.lst S9.length)] (upD 0 N.sw.toNat) S13=.ok ((zCc N m).map D.int) S13:=by
  have e:upD 0 N.sw.toNat=(List.range m).map fun (k:Nat)=>D.int ((k:Nat):Int):=by
   rw [← hm]; show (List.range _).map _=_
   exact qD5 fun k _=>by rw [qK8]
  rw [e]
  unfold zCc
  rw [qC0 (g:=D.int) (f:=fun k=>((zCY N k:Nat):Int))]
  refine zCh (fun (k:Nat)=>D.int ((k:Nat):Int)) (zAp S13) _ _ fun k hk=>⟨_,rfl,?_⟩
  have kr:=qB5.mp hk
  have r:=Oo.rg k (by omega)
  have i1:=zGM (l:=lo) (k:=((k:Nat):Int)) (by omega) (by have:=Oo.len; omega)
  rw [show (((k:Nat):Int)).toNat=k by omega] at i1
  have i2:=zJN (N:=⟨N.sw,N.pl,N.cs.map (zE0 lo)⟩) (m:=m) (k:=(lo.getD k 0).toNat) (by omega)
  rw [show (((lo.getD k 0).toNat:Nat):Int)=lo.getD k 0 by omega,zNA ok Oo (kn k hk)] at i2
  exact zPc _ ((x12.trans x13).lst l11 fun z=>z) i1 i2
 obtain ⟨S14,h14⟩:∃ S14,S13++[O.lst ((zCc N m).map D.int)]=S14:=⟨_,rfl⟩
 obtain ⟨S15,h15⟩:∃ S15,S14++[O.lst ((zCc N m).map D.int)]=S15:=⟨_,rfl⟩
 have q2:oNe (.lst S13.length) (.lst S14.length) S15=.ok (.bl false) S15:=by rw [← h15,← h14]; exact zH5 (zGb _)
 have x15:Ex S13 S15:=h15▸h14▸(zA7 _ _).trans (zA7 _ _)
 have st15:=st11.ex ((x12.trans x13).trans x15)
 obtain ⟨ys,S16,c1,⟨k16,st16⟩,y16,n16⟩:=zJt (fun (k:Nat)=>D.int (0+(k:Nat))) (w:=[]) (t:=.one) (tc:=zAG (cl (n+6))) (c:=zAo (cl (n+6))) (ρ0:=[none,some (.lst i)]) (fun S'=>Kp (·=i) S15 S'∧StOk S' i) (fun y=>∃ j,y=.int j∧True) (fun S' _=>zAp _) (List.range N.sw.toNat) ⟨Kp.refl _ _,st15⟩
  (fun a _ S' hp=>by
   obtain ⟨r,Sa,ea,a0,a1,ka,na,sta⟩:=zAE H.ta (n+5) hp.2 (m:=2) (by decide) (by decide)
   exact ⟨_,rfl,decide (r=0),Sa,by simp [zAG,ea],fun _=>⟨hp.1.trans ka,sta⟩,fun _=>⟨.int (0+(a:Nat)),Sa,(zJU _).2.2,⟨hp.1.trans ka,sta⟩,_,rfl,trivial⟩⟩)
 obtain ⟨l,rfl,_⟩:=zQf y16
 have c1':zAq [] .one (zAG (cl (n+6))) (zAo (cl (n+6))) [none,some (.lst i)] (upD 0 N.sw.toNat) S15=.ok (l.map D.int) S16:=c1
 obtain ⟨S17,h17⟩:∃ S17,S16++[O.lst (l.map D.int)]=S17:=⟨_,rfl⟩
 have t17:zAh [.lst S16.length] S17=.ok (zA4 l) S17:=by rw [← h17]; exact zAg (zA3 _ _)
 obtain ⟨S18,e13,x18⟩:=zLl H.tu H.tc (n+4) N hc100 l S17
 obtain ⟨S19,e14,x19⟩:=zBH H.s (n+1) (zar ok l) S18
 have et:zCc ⟨N.sw,N.pl,N.cs.map (zD3 l)⟩ N.sw.toNat=zCc N m:=by
  rw [← hm]; unfold zCc
  exact qD5 fun k hk=>by rw [zLm ok l (kn k hk)]
 change cl (n+1+5) "turn_counts" _ S18=.ok (zA4 (zCc ⟨N.sw,N.pl,N.cs.map (zD3 l)⟩ N.sw.toNat)) S19 at e14
 rw [et] at e14
 have x17:Ex S16 S17:=h17▸zA7 _ _
 refine ⟨S19,?_,((x09.kp.trans k11).trans ((x12.trans x13).trans x15).kp).trans (k16.trans ((x17.trans x18).trans x19).kp),st16.ex ((x17.trans x18).trans x19)⟩
 rw [show n+7=(n+6)+1 from rfl,H.sr]
 exact zAa rfl (zWg _ (R:=N.cs.map Ct.d) (fun S=>by simp [Net.d]) (fun S=>by simp [Net.d]) (by omega) (by omega) (by rw [zBL,zB0]; omega) lX (by rw [qA2,zB0]; omega) ul e1 c6 h2 h3 q6 e7 c5 h5 t5 q5 c4 h6 e8 c3 h8 h9 q3 rfl e10 (zAg l11) e11 e12 c2 h14 h15 q2 c1' h17 t17 e13 e14 (zFW _ S19).1)
theorem zJS (T:Tb):plain 40 (tD T)=true:=zC0 (n:=39) fun x hx=>by
 obtain ⟨r,_,rfl⟩:=qA9.mp hx
 exact zC0 (n:=38) fun y hy=>by
  obtain ⟨l,_,rfl⟩:=qA9.mp hy
  exact zC0 (n:=37) (zFH (by decide) l)
theorem zVa (T U:Tb):eqB (tD T) (tD U)=pB (T=U):=zUz (zCg.trans ⟨zW3,fun e=>by rw [e]⟩)
theorem zXx (T U:Tb) (S:zA0):oNe (tD T) (tD U) S=.ok (.bl (!pB (T=U))) S:=by rw [zFa S (zJS T) (zJS U),zVa]
def rel (T:Tb) (s a b:Nat):Prop:=a<T.length∧b<T.length∧(ent T a b)[s]?=some 1
theorem zGK {sw:Int}{l m:List Int} (hl:okF sw l) (hm:okF sw m) (h:∀ s:Nat,l[s]?=some 1↔m[s]?=some 1):l=m:=by
 refine List.ext_getElem? fun s=>?_
 have e:l.length=m.length:=by rw [hl.1,hm.1]
 by_cases hs:s<l.length
 ·have hs':s<m.length:=by rw [← e]; exact hs
  have h1:=hl.2 _ (qD1 hs)
  have h2:=hm.2 _ (qD1 hs')
  have h3:=h s
  rw [qA0 hs,qA0 hs'] at h3 ⊢
  simp only [Option.some.injEq] at h3 ⊢
  omega
 ·rw [qF6 (by omega),qF6 (by omega)]
theorem zP2 {sw:Int}{T U:Tb} (hT:okT sw T) (hU:okT sw U) (hl:T.length=U.length) (h:∀ s a b,a<T.length→b<T.length→(rel T s a b↔rel U s a b)):T=U:=by
 refine qL4 hl fun a ha ha'=>?_
 have ra:=zED hT ha
 have ra':=zED hU ha'
 have ga:T[a]=T.getD a []:=by rw [qA0 ha] at ra; exact Option.some.inj ra.1
 have ga':U[a]=U.getD a []:=by rw [qA0 ha'] at ra'; exact Option.some.inj ra'.1
 rw [ga,ga']
 refine qL4 (by rw [ra.2.1,ra'.2.1,hl]) fun b hb hb'=>?_
 have hbT:b<T.length:=by rw [ra.2.1] at hb; exact hb
 have hbU:b<U.length:=by omega
 have eb:=zCV hT ha hbT
 have eb':=zCV hU ha' hbU
 have gb:(T.getD a [])[b]=ent T a b:=by rw [qA0 hb] at eb; exact Option.some.inj eb.1
 have gb':(U.getD a [])[b]=ent U a b:=by rw [qA0 hb'] at eb'; exact Option.some.inj eb'.1
 rw [gb,gb']
 refine zGK eb.2 eb'.2 fun s=>?_
 have:=h s a b ha hbT
 exact ⟨fun z=>(this.mp ⟨ha,hbT,z⟩).2.2,fun z=>(this.mpr ⟨ha',hbU,z⟩).2.2⟩
theorem zF7 {sw:Int}{T:Tb} (ok:okT sw T) (g:gdT T) {s a:Nat} (hs:s<2 ^ sw.toNat) (ha:a<T.length):rel T s a a:=by
 refine ⟨ha,ha,?_⟩
 have e:=(zCV ok ha ha).2
 have hs':s<(ent T a a).length:=by rw [e.1]; exact hs
 have h1:=e.2 _ (qD1 hs')
 have h0:(ent T a a)[s]≠0:=fun z=>g.1 a ha (z▸qD1 hs')
 rw [qA0 hs']
 congr 1; omega
theorem zGF {T:Tb} (g:gdT T) {s a b:Nat} (h:rel T s a b):rel T s b a:=by
 refine ⟨h.2.1,h.1,?_⟩
 rcases qQ3 a b with q | q | q
 ·rw [g.2 b h.2.1 a q]; exact h.2.2
 ·subst q; exact h.2.2
 ·rw [← g.2 a h.1 b q]; exact h.2.2
def Con (R:Nat→Nat→Prop) (a b:Nat):Prop:=∀ C:Nat→Prop,C a→(∀ x y,R x y→C x→C y)→C b
theorem Con.refl (R:Nat→Nat→Prop) (a:Nat):Con R a a:=fun _ h _=>h
theorem Con.step {R:Nat→Nat→Prop}{a b:Nat} (h:R a b):Con R a b:=fun _ c cc=>cc a b h c
theorem Con.trans {R:Nat→Nat→Prop}{a b c:Nat} (h:Con R a b) (k:Con R b c):Con R a c:=fun C c0 cc=>k C (h C c0 cc) cc
theorem Con.symm {R:Nat→Nat→Prop} (hs:∀ x y,R x y→R y x) {a b:Nat} (h:Con R a b):Con R b a:=h (fun x=>Con R x a) (Con.refl R a) fun x y r k=>(Con.step (hs x y r)).trans k
theorem zOK {f:Int→Int→Int}{l m:List Int}{s:Nat}{x:Int}:((l.zip m).map fun p=>f p.1 p.2)[s]?=some x↔∃ u v,l[s]?=some u∧m[s]?=some v∧f u v=x:=by
 rw [qA6]
 constructor
 ·intro h
  obtain ⟨⟨u,v⟩,h1,h2⟩:=qA1.mp h
  rw [qD8] at h1
  exact ⟨u,v,h1.1,h1.2,h2⟩
 ·rintro ⟨u,v,h1,h2,h3⟩
  rw [(qD8 (z:=(u,v))).mpr ⟨h1,h2⟩]
  simp [h3]
theorem zXd {sw:Int}{l m:List Int} (hl:okF sw l) (hm:okF sw m) {s:Nat}:(orL l m)[s]?=some 1↔l[s]?=some 1∨m[s]?=some 1:=by
 unfold orL
 rw [zOK (f:=fun u v=>if 0<u+v then 1 else 0)]
 constructor
 ·rintro ⟨u,v,h1,h2,h3⟩
  have a:=zIQ (hl.2 u (qB9 h1))
  have b:=zIQ (hm.2 v (qB9 h2))
  rcases a with rfl | rfl
  ·rcases b with rfl | rfl
   ·simp at h3
   ·exact .inr h2
  ·exact .inl h1
 ·intro h
  have e:l.length=m.length:=by rw [hl.1,hm.1]
  have hs:s<l.length:=by
   rcases h with h | h
   ·exact (qA5.mp h).1
   ·rw [e]; exact (qA5.mp h).1
  have h1:=qA0 hs
  have h2:=qA0 (show s<m.length by omega)
  have a:=hl.2 _ (qD1 hs)
  have b:=hm.2 _ (qD1 (show s<m.length by omega))
  refine ⟨_,_,h1,h2,?_⟩
  rw [h1,h2] at h
  simp only [Option.some.injEq] at h
  rw [if_pos (by omega)]
theorem zVE {sw:Int}{l m:List Int} (hl:okF sw l) (hm:okF sw m) {s:Nat}:(andL l m)[s]?=some 1↔l[s]?=some 1∧m[s]?=some 1:=by
 unfold andL
 rw [zOK (f:=fun u v=>u*v)]
 constructor
 ·rintro ⟨u,v,h1,h2,h3⟩
  have a:=zIQ (hl.2 u (qB9 h1))
  have b:=zIQ (hm.2 v (qB9 h2))
  rcases a with rfl | rfl
  ·simp at h3
  ·rcases b with rfl | rfl
   ·simp at h3
   ·exact ⟨h1,h2⟩
 ·rintro ⟨h1,h2⟩
  exact ⟨1,1,h1,h2,rfl⟩
theorem zKB {sw:Int}{U:Tb} (ok:okT sw U) (hr:∀ s a,s<2 ^ sw.toNat→a<U.length→rel U s a a) (hs:∀ s a b,rel U s a b→rel U s b a):gdT U:=by
 refine ⟨fun a ha z=>?_,fun a ha b hb=>?_⟩
 ·have e:=(zCV ok ha ha).2
  obtain ⟨s,hs',hz⟩:=qP1.mp z
  have h1:=(hr s a (by rw [← e.1]; exact hs') ha).2.2
  rw [qA0 hs',hz] at h1
  cases h1
 ·have hbl:b<U.length:=by omega
  refine zGK (zCV ok ha hbl).2 (zCV ok hbl ha).2 fun s=>?_
  exact ⟨fun z=>(hs s a b ⟨ha,hbl,z⟩).2.2,fun z=>(hs s b a ⟨hbl,ha,z⟩).2.2⟩
theorem zMN {sw:Int}{T:Tb} (ok:okT sw T) {s a b:Nat} (h:rel T s a b):s<2 ^ sw.toNat:=by
 rw [← (zCV ok h.1 h.2.1).2.1]; exact (qA5.mp h.2.2).1
noncomputable def clT (sw:Int) (T:Tb):Tb:=(List.range T.length).map fun a=>(List.range T.length).map fun b=>(List.range (2 ^ sw.toNat)).map fun s=>if pB (Con (rel T s) a b)=true then 1 else 0
theorem zBm (sw:Int) (T:Tb):(clT sw T).length=T.length:=by unfold clT; simp
theorem zTi {sw:Int}{T:Tb}{a b:Nat} (ha:a<T.length) (hb:b<T.length):ent (clT sw T) a b=(List.range (2 ^ sw.toNat)).map fun s=>if pB (Con (rel T s) a b)=true then 1 else 0:=by
 unfold ent clT
 simp [qF5,qA6,qC8 ha,qC8 hb]
theorem zNq {sw:Int}{T:Tb} (ok:okT sw T):okT sw (clT sw T):=by
 refine ⟨by rw [zBm]; exact ok.1,by rw [zBm]; exact ok.2.1,fun r hr=>?_⟩
 rw [zBm]
 obtain ⟨a,_,rfl⟩:=qA9.mp hr
 refine ⟨by simp,fun l hl=>?_⟩
 obtain ⟨b,_,rfl⟩:=qA9.mp hl
 refine ⟨by simp,fun i hi=>?_⟩
 obtain ⟨s,_,rfl⟩:=qA9.mp hi
 split <;> decide
theorem zKb {sw:Int}{T:Tb}{s a b:Nat}:rel (clT sw T) s a b↔s<2 ^ sw.toNat∧a<T.length∧b<T.length∧Con (rel T s) a b:=by
 constructor
 ·rintro ⟨ha,hb,h⟩
  rw [zBm] at ha hb
  rw [zTi ha hb,qA6] at h
  obtain ⟨s',h1,h2⟩:=qA1.mp h
  obtain ⟨hs,rfl⟩:=qA5.mp h1
  rw [List.getElem_range] at h2
  rw [qF3] at hs
  refine ⟨hs,ha,hb,?_⟩
  by_cases q:pB (Con (rel T s) a b)=true
  ·exact zDZ.mp q
  ·rw [if_neg q] at h2; cases h2
 ·rintro ⟨hs,ha,hb,h⟩
  refine ⟨by rw [zBm]; exact ha,by rw [zBm]; exact hb,?_⟩
  rw [zTi ha hb,qA6,qC8 hs]
  show some (if pB (Con (rel T s) a b)=true then (1:Int) else 0)=some 1
  rw [if_pos (pB_t h)]
theorem zVj {sw:Int}{T M:Tb} (okT':okT sw T) (okM:okT sw M) (gM:gdT M) (hl:M.length=T.length) (h1:∀ s a b,rel T s a b→rel M s a b) (h2:∀ s a b,rel M s a b→Con (rel T s) a b) (h3:∀ s a b c,rel M s a b→rel M s b c→rel M s a c):M=clT sw T:=by
 refine zP2 okM (zNq okT') (by rw [zBm,hl]) fun s a b ha hb=>?_
 rw [zKb]
 constructor
 ·exact fun h=>⟨zMN okM h,by omega,by omega,h2 s a b h⟩
 ·rintro ⟨hs,ha',hb',h⟩
  exact h (fun x=>rel M s a x) (zF7 okM gM hs ha) fun x y r c=>h3 s a x y c (h1 s x y r)
noncomputable def thr:List (List Int × List Int)→List Int→List Int
 | [],t=>t
 | q::r,t=>thr r (orL t (andL q.1 q.2))
theorem zOZ {sw:Int}:∀ (l:List (List Int × List Int)) {t:List Int},(∀ q∈l,okF sw q.1∧okF sw q.2)→okF sw t→okF sw (thr l t)
 | [],t,_,h=>h
 | q::r,t,hl,h=>zOZ r (fun z hz=>hl z (by simp [hz])) (orL_ok' h (zJC (hl q (by simp)).1 (hl q (by simp)).2))
theorem zLp {sw:Int}:∀ (l:List (List Int × List Int)) {t:List Int}{s:Nat},(∀ q∈l,okF sw q.1∧okF sw q.2)→okF sw t→((thr l t)[s]?=some 1↔t[s]?=some 1∨∃ q∈l,q.1[s]?=some 1∧q.2[s]?=some 1)
 | [],t,s,_,h=>⟨.inl,fun z=>z.elim id fun ⟨q,hq,_⟩=>by cases hq⟩
 | q::r,t,s,hl,h=>by
  have hq:=hl q (by simp)
  show (thr r (orL t (andL q.1 q.2)))[s]?=some 1↔_
  rw [zLp r (fun z hz=>hl z (by simp [hz])) (orL_ok' h (zJC hq.1 hq.2)),zXd h (zJC hq.1 hq.2),zVE hq.1 hq.2]
  constructor
  ·rintro ((z | z) | ⟨q',h1,h2⟩)
   ·exact .inl z
   ·exact .inr ⟨q,by simp,z⟩
   ·exact .inr ⟨q',by simp [h1],h2⟩
  ·rintro (z | ⟨q',h1,h2⟩)
   ·exact .inl (.inl z)
   ·rcases qB7.mp h1 with rfl | h1
    ·exact .inl (.inr h2)
    ·exact .inr ⟨q',h1,h2⟩
noncomputable def zer (sw:Int):List Int:=qC2 (2 ^ sw.toNat) 0
theorem zMz (sw:Int):okF sw (zer sw):=⟨by simp [zer],fun i hi=>by rw [List.eq_of_mem_replicate hi]; decide⟩
noncomputable def comE (sw:Int) (T U:Tb) (a b:Nat):List Int:=thr ((T.getD a []).zip (U.getD b [])) (zer sw)
noncomputable def comT (sw:Int) (T U:Tb):Tb:=(List.range T.length).map fun a=>(List.range U.length).map fun b=>comE sw T U a b
theorem zLi {sw:Int}{T U:Tb} (hT:okT sw T) (hU:okT sw U) {a b:Nat} (ha:a<T.length) (hb:b<U.length):∀ q∈(T.getD a []).zip (U.getD b []),okF sw q.1∧okF sw q.2:=fun q hq=>by
 have:=qI6 (a:=q.1) (b:=q.2) hq
 exact ⟨(zED hT ha).2.2 _ this.1,(zED hU hb).2.2 _ this.2⟩
theorem zVi {sw:Int}{T U:Tb} (hT:okT sw T) (hU:okT sw U) {a b:Nat} (ha:a<T.length) (hb:b<U.length):okF sw (comE sw T U a b):=zOZ _ (zLi hT hU ha hb) (zMz sw)
theorem zC4 (sw:Int) (T U:Tb):(comT sw T U).length=T.length:=by unfold comT; simp
theorem zHB {sw:Int}{T U:Tb} (hT:okT sw T) (hU:okT sw U) (hl:T.length=U.length):okT sw (comT sw T U):=by
 refine ⟨by rw [zC4]; exact hT.1,by rw [zC4]; exact hT.2.1,fun r hr=>?_⟩
 rw [zC4]
 obtain ⟨a,ha,rfl⟩:=qA9.mp hr
 refine ⟨by simp [hl],fun l hl'=>?_⟩
 obtain ⟨b,hb,rfl⟩:=qA9.mp hl'
 exact zVi hT hU (qB5.mp ha) (qB5.mp hb)
theorem zQB {sw:Int}{T U:Tb}{a b:Nat} (ha:a<T.length) (hb:b<U.length):ent (comT sw T U) a b=comE sw T U a b:=by
 unfold ent comT
 simp [qF5,qA6,qC8 ha,qC8 hb]
theorem zEO {sw:Int}{T U:Tb} (hT:okT sw T) (hU:okT sw U) (hl:T.length=U.length) {s a b:Nat}:rel (comT sw T U) s a b↔∃ c,rel T s a c∧rel U s b c:=by
 constructor
 ·rintro ⟨ha,hb,h⟩
  rw [zC4] at ha hb
  have hb':b<U.length:=by omega
  rw [zQB ha hb'] at h
  unfold comE at h
  rw [zLp _ (zLi hT hU ha hb') (zMz sw)] at h
  rcases h with h | ⟨q,hq,h1,h2⟩
  ·unfold zer at h
   rw [qF9] at h
   split at h <;> cases h
  ·obtain ⟨c,hc,e⟩:=qP1.mp hq
   have hg:=qA0 hc
   rw [e] at hg
   have hz:=(qD8 (z:=q)).mp hg
   have hcl:c<T.length:=by rw [← (zED hT ha).2.1]; exact (qA5.mp hz.1).1
   have e1:=(zCV hT ha hcl).1
   have e2:=(zCV hU hb' (show c<U.length by omega)).1
   rw [hz.1] at e1
   rw [hz.2] at e2
   refine ⟨c,⟨ha,hcl,?_⟩,hb',by omega,?_⟩
   ·rw [← Option.some.inj e1]; exact h1
   ·rw [← Option.some.inj e2]; exact h2
 ·rintro ⟨c,⟨ha,hc,h1⟩,hb,hc',h2⟩
  refine ⟨by rw [zC4]; exact ha,by rw [zC4]; omega,?_⟩
  rw [zQB ha hb]
  unfold comE
  rw [zLp _ (zLi hT hU ha hb) (zMz sw)]
  refine .inr ⟨(ent T a c,ent U b c),?_,h1,h2⟩
  exact qB9 ((qD8 (z:=(ent T a c,ent U b c))).mpr ⟨(zCV hT ha hc).1,(zCV hU hb hc').1⟩)
theorem zNo {sw:Int}{T:Tb} (ok:okT sw T) (g:gdT T):gdT (comT sw T T):=zKB (zHB ok ok rfl) (fun s a hs ha=>by
 rw [zC4] at ha
 exact (zEO ok ok rfl).mpr ⟨a,zF7 ok g hs ha,zF7 ok g hs ha⟩) fun s a b h=>by
 obtain ⟨c,h1,h2⟩:=(zEO ok ok rfl).mp h
 exact (zEO ok ok rfl).mpr ⟨c,h2,h1⟩
noncomputable def zPF (q n:Nat):List (Nat × Nat × Nat):=(List.range q).flatMap fun s=>(List.range n).flatMap fun a=>(List.range n).map fun b=>(s,a,b)
theorem zSc {q n s a b:Nat}:(s,a,b)∈zPF q n↔s<q∧a<n∧b<n:=by
 unfold zPF
 simp only [qL5,qB5,qA9,Prod.mk.injEq]
 constructor
 ·rintro ⟨s',h1,a',h2,b',h3,rfl,rfl,rfl⟩; exact ⟨h1,h2,h3⟩
 ·rintro ⟨h1,h2,h3⟩; exact ⟨s,h1,a,h2,b,h3,rfl,rfl,rfl⟩
noncomputable def cntT (sw:Int) (T:Tb):Nat:=((zPF (2 ^ sw.toNat) T.length).filter fun t=>pB (rel T t.1 t.2.1 t.2.2)).length
theorem zYh {sw:Int}{T:Tb} (ok:okT sw T) (g:gdT T) (h:comT sw T T≠T):cntT sw T<cntT sw (comT sw T T):=by
 have sub:∀ s a b,rel T s a b→rel (comT sw T T) s a b:=fun s a b r=>(zEO ok ok rfl).mpr ⟨b,r,zF7 ok g (zMN ok r) r.2.1⟩
 have ex:∃ s a b,rel (comT sw T T) s a b∧¬ rel T s a b:=by
  refine Classical.byContradiction fun z=>h ?_
  refine zP2 (zHB ok ok rfl) ok (zC4 _ _ _) fun s a b _ _=>⟨fun r=>?_,sub s a b⟩
  exact Classical.byContradiction fun q=>z ⟨s,a,b,r,q⟩
 obtain ⟨s,a,b,r,nr⟩:=ex
 unfold cntT
 rw [zC4]
 have hr:=r
 have q1:=zMN (zHB ok ok rfl) r
 have q2:=r.1
 have q3:=r.2.1
 rw [zC4] at q2 q3
 exact zHv (a:=(s,a,b)) (fun t ht=>pB_t (sub _ _ _ (zDZ.mp ht))) (zSc.mpr ⟨q1,q2,q3⟩) (pB_t hr) (pB_f nr)
theorem zS9 (q n:Nat):(zPF q n).length=q*(n*n):=by
 unfold zPF
 simp [List.length_flatMap,qR7,qN8]
theorem zTp {sw:Int} (h4:sw≤4) {T:Tb} (ok:okT sw T):cntT sw T≤784:=by
 unfold cntT
 refine qC6 (qD9 ..) ?_
 rw [zS9]
 have h1:2 ^ sw.toNat≤16:=qC6 (qL9 (by decide) (show sw.toNat≤4 by omega)) (by decide)
 exact qC6 (qM9 h1 (qM9 ok.2.1 ok.2.1)) (by decide)
structure HCo (cl:Nat→CLL):Prop where
 th:zCu cl
 rt:zEH cl
 co:zIS cl
 cd:zLg cl
 wb:zDG cl
 we:zCS cl
 sb:zCk cl
theorem tp_l (c:CLL) {rd od:D}{t x y b t':D}{S S1 S2:zA0} (e1:c "where_both" [x,y] S=.ok b S1) (e2:c "where_either" [t,b] S1=.ok t' S2):zAD c [some rd,some od,some t,some x,some y] S=.nx [some rd,some od,some t',some x,some y] S2:=by
 simp [zAD,e1,e2]
theorem zVX (c:CLL) {X Y:List D}{l0 t t':D}{z:Int}{v3 v4:Option D}{S S1:zA0} (i0:atI X 0=some l0) (fl:fLen [l0] S=.ok (.int z) S) (m:oMul (.tup [.int 0]) (.int z) S=.ok t S) (e:zBC [] (gT [gN 3,gN 4]) (zAD c) (zipD X Y) [some (.tup X),some (.tup Y),some t,none,none] S=.nx [some (.tup X),some (.tup Y),some t',v3,v4] S1) :
  zAN c [some (.tup X),some (.tup Y),none,none,none] S=.rt t' S1:=by
 simp [zAN,i0,fl,m,e]
inductive TpI (rd od:D) (S0:zA0) (l:List (List Int × List Int)) (t0:List Int) (j:Nat) (ρ:Env1) (S:zA0):Prop
 | mk (v3 v4:Option D) (e:ρ=[some rd,some od,some (zA4 (thr (l.take j) t0)),v3,v4]) (x:Ex S0 S)
theorem zTz (l:List (List Int × List Int)) (q:List Int × List Int):∀ t,thr (l++[q]) t=orL (thr l t) (andL q.1 q.2):=by
 induction l with
 | nil=>exact fun t=>rfl
 | cons a r ih=>exact fun t=>ih _
theorem zJQ (H:HCo cl) (n:Nat) {sw:Int} (h1:1≤sw) (h4:sw≤4) {R Q:List (List Int)}{p:Nat} (hR:okR sw p R) (hQ:okR sw p Q) (p1:1≤p) (S:zA0):Spc (cl (n+2) "through_some_place" [rowD R,rowD Q] S) (zA4 (thr (R.zip Q) (zer sw))) S:=by
 have okZ:∀ q∈R.zip Q,okF sw q.1∧okF sw q.2:=fun q hq=>by
  have:=qI6 (a:=q.1) (b:=q.2) hq
  exact ⟨hR.2 _ this.1,hQ.2 _ this.2⟩
 have z:zipD (R.map zA4) (Q.map zA4)=(R.zip Q).map fun q=>.tup [zA4 q.1,zA4 q.2]:=by
  unfold zipD; rw [List.zip_map,qC0]; rfl
 obtain ⟨ρ',S1,e1,v3,v4,hρ,x1⟩:=zBd (w:=[]) (g:=gT [gN 3,gN 4]) (b:=zAD (cl (n+1))) (items:=(R.zip Q).map fun q=>D.tup [zA4 q.1,zA4 q.2]) (TpI (rowD R) (rowD Q) S (R.zip Q) (zer sw)) (ρ:=[some (rowD R),some (rowD Q),some (zA4 (zer sw)),none,none]) (S:=S)
  (fun _ _ _ _=>zAp _) ⟨none,none,rfl,Kp.refl _ _⟩
  (fun j d ρ S' hd hp=>by
   obtain ⟨v3,v4,rfl,x⟩:=hp
   rw [qA6] at hd
   obtain ⟨q,hq,rfl⟩:=qA1.mp hd
   have hm:=okZ q (qB9 hq)
   have ht:=zOZ ((R.zip Q).take j) (fun z hz=>okZ z (qL8 hz)) (zMz sw)
   obtain ⟨S2,w1,x2⟩:=zGO H.wb n (zPH h4 hm.1) hm.1.2 hm.2.2 S'
   obtain ⟨S3,w2,x3⟩:=zFA H.we n (zPH h4 ht) ht.2 (zJC hm.1 hm.2).2 S2
   refine ⟨_,_,rfl,_,S3,.inl (tp_l _ w1 w2),⟨some (zA4 q.1),some (zA4 q.2),?_,(x.trans x2).trans x3⟩⟩
   rw [qQ4,hq]
   show _=[some (rowD R),some (rowD Q),some (zA4 (thr ((R.zip Q).take j++[q]) (zer sw))),_,_]
   rw [zTz])
 subst hρ
 rw [qA2,qL2,← z] at e1
 have hl0:0<R.length:=by rw [hR.1]; exact p1
 have i0:atI (R.map zA4) ((0:Nat):Int)=some (zA4 R[0]):=zCQ (by rw [qA6,qA0 hl0]; rfl)
 have fl:fLen [zA4 R[0]] S=.ok (.int ((2 ^ sw.toNat:Nat):Int)) S:=by
  show fLen [.tup (R[0].map D.int)] S=_
  rw [zNf,qA2,(hR.2 _ (qD1 hl0)).1]
 refine ⟨S1,?_,x1⟩
 rw [show n+2=(n+1)+1 from rfl,H.th]
 exact zAa rfl (zVX _ i0 fl (zMS h1 h4 rfl 0 S) e1)
theorem rt_e (c:CLL) {r q d:D}{S S1:zA0} (e:c "through_some_place" [r,q] S=.ok d S1):zBB c [some q,some r] S=.ok d S1:=by
 simp [zBB,e]
theorem zWB (c:CLL) {rd:D}{X R:List D}{S S1 S2:zA0} (hl:X.length<lim) (e1:zAq [] .one (fun _=>ret true) (zBB c) [none,some rd] X S=.ok R S1) (h2:S1++[.lst R]=S2) (t:zAh [.lst S1.length] S2=.ok (.tup R) S2):zC7 c [some rd,some (.tup X)] S=.rt (.tup R) S2:=by
 simp [zC7,hl,e1,h2,t]
theorem zPp {sw:Int}{U:Tb} (ok:okT sw U):U=(List.range U.length).map fun b=>U.getD b []:=by
 refine qL4 (by simp) fun b h1 h2=>?_
 have:=(zED ok h1).1
 rw [qA0 h1] at this
 simp [Option.some.inj this]
theorem zGl (H:HCo cl) (n:Nat) {sw:Int} (h1:1≤sw) (h4:sw≤4) {T U:Tb} (hT:okT sw T) (hU:okT sw U) (hl:T.length=U.length) {a:Nat} (ha:a<T.length) (S:zA0):Spc (cl (n+3) "row_through" [rowD (T.getD a []),tD U] S) (rowD ((List.range U.length).map fun b=>comE sw T U a b)) S:=by
 have h7:=hU.2.1
 obtain ⟨S1,e1,x1⟩:=zDl (fun (b:Nat)=>rowD (U.getD b [])) (w:=[]) (t:=.one) (c:=zBB (cl (n+2))) (ρ0:=[none,some (rowD (T.getD a []))]) (fun S'=>Ex S S') (fun S' _=>zAp _) (fun b=>zA4 (comE sw T U a b)) (List.range U.length) (Kp.refl _ _)
  (fun b hb S' x=>by
   have hb':=qB5.mp hb
   have ru:=(zED hU hb').2
   rw [← hl] at ru
   obtain ⟨S2,e2,x2⟩:=zJQ H n h1 h4 (zED hT ha).2 ru (by have:=hT.1; omega) S'
   exact ⟨_,rfl,S2,rt_e _ e2,x.trans x2⟩)
 have hU':U.map rowD=(List.range U.length).map fun b=>rowD (U.getD b []):=by
  conv=>lhs; rw [zPp hU]
  rw [qC0]; rfl
 rw [← hU'] at e1
 obtain ⟨S2,h2⟩:∃ S2,S1++[O.lst ((List.range U.length).map fun b=>zA4 (comE sw T U a b))]=S2:=⟨_,rfl⟩
 refine ⟨S2,?_,x1.trans (by rw [← h2]; exact zA7 _ _)⟩
 have hd:rowD ((List.range U.length).map fun b=>comE sw T U a b)=.tup ((List.range U.length).map fun b=>zA4 (comE sw T U a b)):=by unfold rowD; rw [qC0]; rfl
 rw [show n+3=(n+2)+1 from rfl,H.rt,hd]
 exact zAa rfl (zWB _ (by rw [qA2,zB0]; omega) e1 h2 (by rw [← h2]; exact zAg (zA3 _ _)))
theorem ct_e (c:CLL) {r q d:D}{S S1:zA0} (e:c "row_through" [r,q] S=.ok d S1):zDm c [some r,some q] S=.ok d S1:=by
 simp [zDm,e]
theorem zY9 (c:CLL) {ud:D}{X R:List D}{S S1 S2 S3:zA0} (hl:X.length<lim) (e1:zAq [] .one (fun _=>ret true) (zDm c) [none,some ud] X S=.ok R S1) (h2:S1++[.lst R]=S2) (t:zAh [.lst S1.length] S2=.ok (.tup R) S2) (e3:c "same_both_ways" [.tup R] S2=.ok (.bl true) S3):zEg c [some (.tup X),some ud,none] S=.rt (.tup R) S3:=by
 simp [zEg,hl,e1,h2,t,e3]
theorem zGi (H:HCo cl) (n:Nat) {sw:Int} (h1:1≤sw) (h4:sw≤4) {T U:Tb} (hT:okT sw T) (hU:okT sw U) (hl:T.length=U.length) (g:gdT (comT sw T U)) (S:zA0):Spc (cl (n+4) "come_to" [tD T,tD U] S) (tD (comT sw T U)) S:=by
 have h7:=hT.2.1
 obtain ⟨S1,e1,x1⟩:=zDl (fun (a:Nat)=>rowD (T.getD a [])) (w:=[]) (t:=.one) (c:=zDm (cl (n+3))) (ρ0:=[none,some (tD U)]) (fun S'=>Ex S S') (fun S' _=>zAp _) (fun a=>rowD ((List.range U.length).map fun b=>comE sw T U a b)) (List.range T.length) (Kp.refl _ _)
  (fun a ha S' x=>by
   obtain ⟨S2,e2,x2⟩:=zGl H n h1 h4 hT hU hl (qB5.mp ha) S'
   exact ⟨_,rfl,S2,ct_e _ e2,x.trans x2⟩)
 have hT':T.map rowD=(List.range T.length).map fun a=>rowD (T.getD a []):=by
  conv=>lhs; rw [zPp hT]
  rw [qC0]; rfl
 rw [← hT'] at e1
 obtain ⟨S2,h2⟩:∃ S2,S1++[O.lst ((List.range T.length).map fun a=>rowD ((List.range U.length).map fun b=>comE sw T U a b))]=S2:=⟨_,rfl⟩
 have hd:tD (comT sw T U)=.tup ((List.range T.length).map fun a=>rowD ((List.range U.length).map fun b=>comE sw T U a b)):=by unfold tD comT; rw [qC0]; rfl
 have e3:=zHZ H.sb (n+2) (zHB hT hU hl) S2
 rw [pB_t g.2,hd] at e3
 refine ⟨S2,?_,x1.trans (by rw [← h2]; exact zA7 _ _)⟩
 rw [show n+4=(n+3)+1 from rfl,H.co,hd]
 exact zAa rfl (zY9 _ (by rw [qA2,zB0]; omega) e1 h2 (by rw [← h2]; exact zAg (zA3 _ _)) e3)
theorem cd_t (c:CLL) {td a b:D}{k:Bool}{S:zA0} (q:oNe b a S=.ok (.bl k) S):(zAB (cBin oNe (cVar 2) (cVar 1))) [some td,some a,some b] S=.ok k S:=by
 simp [q]
theorem cd_l (c:CLL) {td a b d:D}{S S1:zA0} (e:c "come_to" [b,b] S=.ok d S1):zEa c [some td,some a,some b] S=.nx [some td,some b,some d] S1:=by
 simp [zEa,e]
theorem zYj (c:CLL) {td d r f:D}{S S1 S2:zA0} (e1:c "come_to" [td,td] S=.ok d S1) (e2:zDJ zLk (zAB (cBin oNe (cVar 2) (cVar 1))) (zEa c) [some td,some td,some d] S1=.nx [some td,some r,some f] S2):zFv c [some td,none,none] S=.rt r S2:=by
 simp [zFv,e1,e2]
inductive CdI (sw:Int) (T:Tb) (S0:zA0) (m:Nat) (ρ:Env1) (S:zA0):Prop
 | mk (M:Tb) (e:ρ=[some (tD T),some (tD M),some (tD (comT sw M M))]) (ok:okT sw M) (g:gdT M) (hl:M.length=T.length) (h1:∀ s a b,rel T s a b→rel M s a b) (h2:∀ s a b,rel M s a b→Con (rel T s) a b) (hm:m+cntT sw M=784) (x:Ex S0 S)
inductive CdQ (sw:Int) (T:Tb) (S0:zA0) (ρ:Env1) (S:zA0):Prop
 | mk (f:D) (e:ρ=[some (tD T),some (tD (clT sw T)),some f]) (x:Ex S0 S)
theorem zM9 (H:HCo cl) (n:Nat) {sw:Int} (h1:1≤sw) (h4:sw≤4) {T:Tb} (ok:okT sw T) (g:gdT T) (S:zA0):Spc (cl (n+5) "closed" [tD T] S) (tD (clT sw T)) S:=by
 obtain ⟨S1,e1,x1⟩:=zGi H n h1 h4 ok ok rfl (zNo ok g) S
 obtain ⟨ρ',S2,e2,f,hρ,x2⟩:=zIW (t:=zAB (cBin oNe (cVar 2) (cVar 1))) (b:=zEa (cl (n+4))) (CdI sw T S1) (CdQ sw T S1)
  (fun m ρ S' hp=>by
   obtain ⟨M,rfl,okM,gM,hl,q1,q2,hm,x⟩:=hp
   have okC:=zHB okM okM rfl
   have t:=cd_t (cl (n+4)) (td:=tD T) (zXx (comT sw M M) M S')
   cases hE:pB (comT sw M M=M) with
   | true =>
    rw [hE] at t
    have e:=zDZ.mp hE
    refine .inl ⟨S',t,tD (comT sw M M),?_,x⟩
    rw [← zVj ok okM gM hl q1 q2 fun s a b c r r'=>by
     rw [← e]
     exact (zEO okM okM rfl).mpr ⟨b,r,zGF gM r'⟩]
   | false =>
    rw [hE] at t
    have hne:comT sw M M≠M:=fun z=>by rw [pB_t z] at hE; cases hE
    have lt:=zYh okM gM hne
    have le:=zTp h4 okC
    obtain ⟨S3,e3,x3⟩:=zGi H n h1 h4 okC okC rfl (zNo okC (zNo okM gM)) S'
    refine .inr ⟨S',t,_,S3,.inl (cd_l _ e3),784 - cntT sw (comT sw M M),by omega,⟨comT sw M M,rfl,okC,zNo okM gM,by rw [zC4]; exact hl,fun s a b r=>?_,fun s a b r=>?_,by omega,x.trans x3⟩⟩
    ·have r':=q1 s a b r
     exact (zEO okM okM rfl).mpr ⟨b,r',zF7 okM gM (zMN okM r') r'.2.1⟩
    ·obtain ⟨c,r1,r2⟩:=(zEO okM okM rfl).mp r
     exact (q2 s a c r1).trans ((q2 s b c r2).symm fun x y=>zGF g))
  zLk (784 - cntT sw T) [some (tD T),some (tD T),some (tD (comT sw T T))] S1 (qG5 (qR9 _ _) (by decide))
  ⟨T,rfl,ok,g,rfl,fun _ _ _ r=>r,fun _ _ _ r=>.step r,by have:=zTp h4 ok; omega,Kp.refl _ _⟩
 subst hρ
 refine ⟨S2,?_,x1.trans x2⟩
 rw [show n+5=(n+4)+1 from rfl,H.cd]
 exact zAa rfl (zYj _ e1 e2)
theorem zJi {α:Type}{l:List α}{f:α→Bool}{s:Nat}:(l.map fun st=>if f st=true then (1:Int) else 0)[s]?=some 1↔∃ st,l[s]?=some st∧f st=true:=by
 rw [qA6]
 constructor
 ·intro h
  obtain ⟨st,h1,h2⟩:=qA1.mp h
  refine ⟨st,h1,?_⟩
  cases q:f st with
  | true=>rfl
  | false=>rw [q] at h2; cases h2
 ·rintro ⟨st,h1,h2⟩
  rw [h1]; simp [h2]
theorem zEN {N:Net}{s a b:Nat}:rel (tieT N) s a b↔a<N.pl.toNat∧b<N.pl.toNat∧∃ st,(sett N.sw.toNat)[s]?=some st∧tieB N a b st=true:=by
 constructor
 ·rintro ⟨ha,hb,h⟩
  rw [zBq] at ha hb
  rw [zMC N ha hb] at h
  exact ⟨ha,hb,zJi.mp h⟩
 ·rintro ⟨ha,hb,h⟩
  refine ⟨by rw [zBq]; exact ha,by rw [zBq]; exact hb,?_⟩
  rw [zMC N ha hb]
  exact zJi.mpr h
theorem zJ4 {k s:Nat} (h:s<2 ^ k):∃ st,(sett k)[s]?=some st:=⟨_,qA0 (by rw [zBI]; exact h)⟩
theorem zOW {N:Net} (ok:N.g):gdT (tieT N):=zKB (zGE ok) (fun s a hs ha=>by
 rw [zBq] at ha
 obtain ⟨st,h⟩:=zJ4 hs
 exact zEN.mpr ⟨ha,ha,st,h,pB_t (.inl rfl)⟩) fun s a b h=>by
 obtain ⟨ha,hb,st,h1,h2⟩:=zEN.mp h
 refine zEN.mpr ⟨hb,ha,st,h1,pB_t ?_⟩
 rcases zDZ.mp h2 with e | ⟨c,hc,ht,hs⟩
 ·exact .inl e.symm
 ·exact .inr ⟨c,hc,ht.symm,hs⟩
theorem zV4 {N:Net} (ok:N.g) {s:Nat}:(funP N)[s]?=some 1↔s<2 ^ N.sw.toNat∧Con (rel (tieT N) s) 0 1:=by
 have p1:=ok.p1
 unfold funP
 rw [zJi]
 constructor
 ·rintro ⟨st,h1,h2⟩
  refine ⟨by rw [← zBI]; exact (qA5.mp h1).1,fun C c0 cc=>?_⟩
  have hg:=zOW ok
  have:=(zJj.mp h2) (fun x=>C x.toNat) c0 (fun c hc hs=>by
   obtain ⟨a0,ab,bp,_⟩:=ok.c2 c hc
   have r:rel (tieT N) s c.a.toNat c.b.toNat:=zEN.mpr ⟨by omega,by omega,st,h1,pB_t (.inr ⟨c,hc,.inl ⟨by omega,by omega⟩,hs⟩)⟩
   exact ⟨cc _ _ r,cc _ _ (zGF hg r)⟩)
  exact this
 ·rintro ⟨hs,h⟩
  obtain ⟨st,h1⟩:=zJ4 hs
  refine ⟨st,h1,zJj.mpr fun C c0 cc=>?_⟩
  exact h (fun x=>C (x:Int)) c0 fun x y r c=>by
   obtain ⟨_,_,st',q1,q2⟩:=zEN.mp r
   rw [h1] at q1; cases q1
   rcases zDZ.mp q2 with e | ⟨d,hd,ht,hsd⟩
   ·have:(y:Int)=(x:Int):=e.symm
    rw [this]; exact c
   ·have:=cc d hd hsd
    rcases ht with ⟨e1,e2⟩ | ⟨e1,e2⟩
    ·rw [← e2]; rw [← e1] at c; exact this.mp c
    ·rw [← e1]; rw [← e2] at c; exact this.mpr c
theorem zXZ {N:Net} (ok:N.g):ent (clT N.sw (tieT N)) 0 1=funP N:=by
 have p1:=ok.p1
 have h0:0<(tieT N).length:=by rw [zBq]; omega
 have h1:1<(tieT N).length:=by rw [zBq]; omega
 have okf:okF N.sw (funP N):=by
  refine ⟨by unfold funP; rw [qA2,zBI],fun i hi=>?_⟩
  unfold funP at hi
  obtain ⟨st,_,rfl⟩:=qA9.mp hi
  split <;> decide
 refine zGK (zCV (zNq (zGE ok)) (by rw [zBm]; exact h0) (by rw [zBm]; exact h1)).2 okf fun s=>?_
 rw [zV4 ok]
 constructor
 ·intro h
  obtain ⟨q1,_,_,q4⟩:=zKb.mp (show rel (clT N.sw (tieT N)) s 0 1 from ⟨by rw [zBm]; exact h0,by rw [zBm]; exact h1,h⟩)
  exact ⟨q1,q4⟩
 ·rintro ⟨q1,q4⟩
  exact (zKb.mpr ⟨q1,h0,h1,q4⟩).2.2
noncomputable def cB (N:Net) (st:List Int) (a b:Int):Bool:=@decide (Conn (ends (N.cs.filter fun c=>zAr c st)) a b) (Classical.propDecidable _)
theorem zIN {N:Net}{st:List Int}{a b:Int}:cB N st a b=true↔Conn (ends (N.cs.filter fun c=>zAr c st)) a b:=@decide_eq_true_iff _ (Classical.propDecidable _)
theorem zaT {N:Net}{st:List Int}{a b:Int}{k:Bool} (h:k=true↔Conn (ends (N.cs.filter fun c=>zAr c st)) a b):k=cB N st a b:=by
 rw [qE7,h,zIN]
theorem zVu (N:Net) (st:List Int) (a b:Int):cB N st a b=cB N st b a:=by rw [qE7,zIN,zIN]; exact zHA
noncomputable def betP (N:Net) (a b:Int):List Int:=(sett N.sw.toNat).map fun st=>if cB N st a b then 1 else 0
structure HBw (cl:Nat→CLL):Prop where
 wh:zBM cl
 se:zCj cl
 is:zBs cl
 pf:zAC cl
 sc:zAK cl
 rf:zCX cl
 io:zEm cl
 be:zIT cl
theorem zPG (H:HBw cl) (n:Nat) {N:Net} (ok:N.g) {a b:Int} (ha:0≤a∧a<7) {st:List Int} (hs:(st.length:Int)=N.sw) (S:zA0):Spc (cl (n+3) "in_one_piece" [N.d,.int a,.int b,zA4 st] S) (.bl (cB N st a b)) S:=by
 have e1:=zBT H.sc H.is n N st (ok.len (by decide)) (ok.ks ⟨hs⟩) S
 obtain ⟨m,S1,fs,e2,x2,hf,r⟩:=zH3 H.pf (n+1) (N.cs.filter fun c=>zAr c st) a ha (qC6 (qD9 _ _) (ok.len (by decide))) ((ok.in7 (by decide)).filter _) (S:=S++[.lst ((N.cs.filter fun c=>zAr c st).map Ct.d)]) (k:=S.length) (zA3 _ _)
 have q:=zMW hf false b
 have e3:decide (b∈fs)=cB N st a b:=zaT (by rw [decide_eq_true_eq]; exact r.conn b)
 refine ⟨S1,?_,(zA7 _ _).trans x2⟩
 rw [show n+3=(n+2)+1 from rfl,H.io]
 refine zAa rfl ?_
 generalize N.d=nd at *
 generalize zA4 st=sd at *
 simp [zCp,zAu,e1,e2,q,e3]
theorem zZG (c:CLL) {nd:D}{i pl:Int}{S:zA0} (ew:c "is_whole" [.int i] S=.ok (.bl true) S) (ix:∀ S,oIx nd (.int 1) S=.ok (.int pl) S) (h:0≤i∧i<pl):zB1 c [some nd,some (.int i)] S=.nx [some nd,some (.int i)] S:=by
 simp [zB1,ew,ix,h]
theorem zLC (N:Net) (S:zA0):oIx N.d (.int 1) S=.ok (.int N.pl) S:=by simp [Net.d]
theorem zLD (N:Net) (S:zA0):oIx N.d (.int 0) S=.ok (.int N.sw) S:=by simp [Net.d]
theorem zKc (H:HBw cl) (n:Nat) {N:Net}{i:Int} (h:0≤i∧i<N.pl) (S:zA0):cl (n+2) "refuse_no_place" [N.d,.int i] S=.ok .non S:=by
 rw [show n+2=(n+1)+1 from rfl,H.rf]
 exact zT2 rfl (zZG _ (zKs H.wh n (zXJ S i)) (fun S=>zLC N S) h)
theorem bw_e (c:CLL) {sd nd:D}{a b:Int}{k:Bool}{S S1:zA0} (e:c "in_one_piece" [nd,.int a,.int b,sd] S=.ok (.bl k) S1):zDn c [some sd,some nd,some (.int a),some (.int b)] S=.ok (.int (if k then 1 else 0)) S1:=by
 cases k <;> simp [zDn,e]
theorem zYl (c:CLL) {nd sw td:D}{a b:Int}{k:Nat}{B R:List D}{S S1 S2:zA0} (r1:c "refuse_no_place" [nd,.int a] S=.ok .non S) (r2:c "refuse_no_place" [nd,.int b] S=.ok .non S) (i0:oIx nd (.int 0) S=.ok sw S) (e1:c "settings" [sw] S=.ok (.lst k) S1) (l1:zA6 S1 k=some B) (hl:B.length<lim)
  (e2:zAq [(k,B)] .one (fun _=>ret true) (zDn c) [none,some nd,some (.int a),some (.int b)] B S1=.ok R S2) (t:zAh [.lst S2.length] (S2++[.lst R])=.ok td (S2++[.lst R])):zEh c [some nd,some (.int a),some (.int b)] S=.rt td (S2++[.lst R]):=by
 simp [zEh,r1,r2,i0,e1,l1,hl,e2,t]
theorem zCt (H:HBw cl) (n:Nat) {N:Net} (ok:N.g) {a b:Int} (ha:0≤a∧a<N.pl) (hb:0≤b∧b<N.pl) (S:zA0):Spc (cl (n+4) "between" [N.d,.int a,.int b] S) (zA4 (betP N a b)) S:=by
 have p2:=ok.p2
 obtain ⟨k,S1,e1,x1,_,l1⟩:=zBU H.se (n+2) (sw:=N.sw) (by have:=ok.s1; omega) ok.s2 S
 obtain ⟨S2,e2,x2⟩:=zDl zA4 (w:=[(k,(sett N.sw.toNat).map zA4)]) (t:=.one) (c:=zDn (cl (n+3))) (ρ0:=[none,some N.d,some (.int a),some (.int b)]) (fun S'=>Ex S1 S') (fun S' x=>zCz (x.lst l1 fun z=>z)) (fun st=>.int (if cB N st a b then 1 else 0)) (sett N.sw.toNat) (Kp.refl _ _)
  (fun st hst S' x=>by
   obtain ⟨S3,e3,x3⟩:=zPG H n ok (a:=a) (b:=b) (by omega) (sett_len' ok hst) S'
   exact ⟨_,rfl,S3,bw_e _ e3,x.trans x3⟩)
 have e4:(sett N.sw.toNat).map (fun st=>D.int (if cB N st a b then 1 else 0))=(betP N a b).map D.int:=by unfold betP; rw [qC0]; rfl
 rw [e4] at e2
 refine ⟨_,?_,(x1.trans x2).trans (zA7 S2 [.lst ((betP N a b).map D.int)])⟩
 rw [show n+4=(n+3)+1 from rfl,H.be]
 exact zAa rfl (zYl _ (zKc H (n+1) ha S) (zKc H (n+1) hb S) (zLD N S) e1 l1 (zIr ok.s2) e2 (zAg (zA3 S2 _)))
noncomputable def rowQ (p a:Nat):List (Nat × Nat):=(List.range (p - (a+1))).map fun k=>(a,a+1+k)
noncomputable def prs (p n:Nat):List (Nat × Nat):=(List.range n).flatMap (rowQ p)
noncomputable def prD (q:Nat × Nat):D:=.tup [.int (q.1:Nat),.int (q.2:Nat)]
theorem zMP (p n:Nat):prs p (n+1)=prs p n++rowQ p n:=by unfold prs; rw [qM1,qP3]; simp
theorem zMK (p a:Nat):(rowQ p a).length≤p:=by unfold rowQ; simp
theorem zLx (p:Nat):∀ n,(prs p n).length≤n*p
 | 0=>by simp [prs]
 | n+1=>by
  rw [zMP,qC4,Nat.succ_mul]
  have:=zLx p n
  have:=zMK p n
  omega
theorem zRL {p a:Nat}{q:Nat × Nat} (h:q∈rowQ p a):q.1=a∧a<q.2∧q.2<p:=by
 unfold rowQ at h
 obtain ⟨k,hk,rfl⟩:=qA9.mp h
 rw [qB5] at hk
 exact ⟨rfl,by show a<a+1+k; omega,by show a+1+k<p; omega⟩
theorem zLw {p n:Nat}{q:Nat × Nat} (h:q∈prs p n):q.1<q.2∧q.2<p:=by
 unfold prs at h
 obtain ⟨a,_,ha⟩:=qL5.mp h
 obtain ⟨e,h1,h2⟩:=zRL ha
 omega
theorem po_e (c:CLL) {a b:Int}{S:zA0}:zCd c [some (.int b),some (.int a)] S=.ok (.tup [.int a,.int b]) S:=by simp [zCd]
theorem zWO (c:CLL) {p a:Nat}{w:zDv}{S:zA0} (hw:okW w S):zAq w .one (fun _=>ret true) (zCd c) [none,some (.int (a:Nat))] (upD ((a+1:Nat):Int) (p - (a+1))) S=.ok ((rowQ p a).map prD) S:=by
 have:=zCh (fun k:Nat=>D.int (((a+1:Nat):Int)+(k:Nat))) (t:=.one) (c:=zCd c) (ρ0:=[none,some (.int (a:Nat))]) hw (fun k=>prD (a,a+1+k)) (List.range (p - (a+1))) fun k _=>⟨_,rfl,po_e c⟩
 unfold rowQ
 rw [qC0]
 exact this
theorem po_l (c:CLL) {pl a lo:Int}{k m:Nat}{R:List D}{S S1:zA0} (b1:-4611686018427387904≤lo) (b2:lo<4611686018427387904) (b3:-4611686018427387904≤pl) (b4:pl<4611686018427387904) (hlo:a+1=lo) (ta:(pl - lo).toNat=m) (hm:(upD lo m).length<lim) (e1:zAq [] .one (fun _=>ret true) (zCd c) [none,some (.int a)] (upD lo m) S=.ok R S) (ty:tyOk "list" (.lst k) S=true)
  (ext:zCK (.lst k) [.lst S.length] (S++[.lst R])=.ok .non S1):zCI c [some (.int pl),some (.lst k),some (.int a)] S=.nx [some (.int pl),some (.lst k),some (.int a)] S1:=by
 simp [zCI,ty,hlo,b1,b2,b3,b4,ta,hm,e1,ext]
theorem zWN (c:CLL) {pl:Int}{m:Nat}{w2:Option D}{S S1:zA0} (b3:-4611686018427387904≤pl) (b4:pl<4611686018427387904) (ta:pl.toNat=m) (e:zBC [] (gN 2) (zCI c) (upD 0 m) [some (.int pl),some (.lst S.length),none] (S++[.lst []])=.nx [some (.int pl),some (.lst S.length),w2] S1):zDr c [some (.int pl),none,none] S=.rt (.lst S.length) S1:=by
 simp [zDr,b3,b4,ta,e]
theorem zV9 {S:zA0}{n k:Nat}{ys zs:List D} (h1:zA6 S n=some ys) (h2:zA6 S k=some zs) (hl:ys.length+zs.length≤lim):zCK (.lst n) [.lst k] S=.ok .non (S.set n (.lst (ys++zs))):=by
 unfold zCK
 dsimp only
 rw [zAZ h1,zAZ h2]
 dsimp only
 rw [if_pos hl]
inductive PoI (p k:Nat) (S0:zA0) (j:Nat) (ρ:Env1) (S:zA0):Prop
 | mk (w2:Option D) (e:ρ=[some (.int (p:Nat)),some (.lst k),w2]) (x:Kp (fun _=>False) S0 S) (l:zA6 S k=some ((prs p j).map prD))
theorem zIu (h:zF1 cl) (n:Nat) {p:Nat} (hp:p≤7) (S:zA0):∃ k S1,cl (n+1) "pairs_of" [.int (p:Nat)] S=.ok (.lst k) S1∧Ex S S1∧S.length≤k∧zA6 S1 k=some ((prs p p).map prD):=by
 have lb:100≤lim:=by rw [zB0]; decide
 obtain ⟨ρ',S1,e,w2,hρ,x,l⟩:=zBd (w:=[]) (g:=gN 2) (b:=zCI (cl n)) (items:=upD 0 p) (PoI p S.length S) (ρ:=[some (.int (p:Nat)),some (.lst S.length),none]) (S:=S++[.lst []])
  (fun j ρ S' _=>zAp _) ⟨none,rfl,zA7 _ _,by rw [zA3]; rfl⟩
  (fun j d ρ S' hd hp'=>by
   obtain ⟨w2,rfl,x,l⟩:=hp'
   rw [zEI] at hd
   obtain ⟨hj,rfl⟩:=hd
   have e0:(0:Int)+(j:Int)=((j:Nat):Int):=by omega
   rw [e0]
   have pl:=zLx p j
   have rl:=zMK p j
   have jp:j*p≤49:=qC6 (qM9 (by omega:j≤7) hp) (by decide)
   have l2:=(zA7 S' [.lst ((rowQ p j).map prD)]).lst l fun z=>z
   have ex:=zV9 l2 (zA3 S' ((rowQ p j).map prD)) (by rw [qA2,qA2]; omega)
   refine ⟨_,_,rfl,_,_,.inl (po_l _ (lo:=((j+1:Nat):Int)) (m:=p - (j+1)) (by omega) (by omega) (by omega) (by omega) (by omega) (by omega) (by rw [zBL]; omega) (zWO _ (zAp _)) (zCl l) ex),⟨_,rfl,?_,?_⟩⟩
   ·exact (x.trans (zA7 S' _)).setNew (qB0 _)
   ·rw [zC1 l2,zMP,qE4])
 subst hρ
 rw [zBL] at l
 refine ⟨S.length,S1,?_,x,qB0 _,l⟩
 rw [h]
 exact zAa rfl (zWN _ (m:=p) (by omega) (by omega) (by omega) e)
noncomputable def evQ (N:Net) (q:Nat × Nat):Bool:=!decide ((0:Int)∈betP N (q.1:Nat) (q.2:Nat))
noncomputable def nvQ (N:Net) (q:Nat × Nat):Bool:=!decide ((1:Int)∈betP N (q.1:Nat) (q.2:Nat))
theorem zRb {N:Net}{a b x:Int} (h:x∈betP N a b):x=0∨x=1:=by
 unfold betP at h
 obtain ⟨st,_,rfl⟩:=qA9.mp h
 split
 ·exact .inr rfl
 ·exact .inl rfl
theorem zYy (l:List Int):(l.map (· != 0)).all id=!decide ((0:Int)∈l):=by
 rw [qE7]
 simp only [qN9,qE5,Function.comp,id,bne_iff_ne,qJ0,decide_eq_false_iff_not]
 exact ⟨fun h z=>h 0 z rfl,fun h x hx z=>h (z▸hx)⟩
theorem zYx {l:List Int} (h:∀ x∈l,x=0∨x=1):(!(l.map (· != 0)).any id)=!decide ((1:Int)∈l):=by
 congr 1
 rw [qE7]
 simp only [qO0,qN6,Function.comp,id,bne_iff_ne,decide_eq_true_eq]
 constructor
 ·rintro ⟨x,hx,nx⟩
  rcases h x hx with rfl | rfl
  ·exact absurd rfl nx
  ·exact hx
 ·exact fun h=>⟨1,h,by decide⟩
structure HJo (cl:Nat→CLL):Prop where
 b:HBw cl
 po:zF1 cl
 al:zDO cl
 ne:zEk cl
theorem zWM {q:Nat × Nat} (S:zA0):oIx (prD q) (.int 0) S=.ok (.int (q.1:Nat)) S∧oIx (prD q) (.int 1) S=.ok (.int (q.2:Nat)) S:=by
 unfold prD
 exact ⟨by simp,by simp⟩
theorem al_t (c:CLL) {q nd:D}{a b:Int}{l:List Int}{k:Bool}{S S1:zA0} (i0:oIx q (.int 0) S=.ok (.int a) S) (i1:oIx q (.int 1) S=.ok (.int b) S) (e:c "between" [nd,.int a,.int b] S=.ok (.tup (l.map D.int)) S1) (hk:(l.map (· != 0)).all id=k):zBb c [some q,some nd] S=.ok k S1:=by
 have f:=zIK (fun bs=>bs.all id) l S1
 rw [hk] at f
 simp [zBb,i0,i1,e,f]
theorem ne_t (c:CLL) {q nd:D}{a b:Int}{l:List Int}{k:Bool}{S S1:zA0} (i0:oIx q (.int 0) S=.ok (.int a) S) (i1:oIx q (.int 1) S=.ok (.int b) S) (e:c "between" [nd,.int a,.int b] S=.ok (.tup (l.map D.int)) S1) (hk:(!(l.map (· != 0)).any id)=k):zBj c [some q,some nd] S=.ok k S1:=by
 have f:=zIK (fun bs=>bs.any id) l S1
 subst hk
 simp [zBj,i0,i1,e,f]
theorem zYz (c:CLL) {nd:D}{pl:Int}{k:Nat}{B R:List D}{S S1 S2:zA0} (i1:oIx nd (.int 1) S=.ok (.int pl) S) (e1:c "pairs_of" [.int pl] S=.ok (.lst k) S1) (l1:zA6 S1 k=some B) (hl:B.length<lim) (e2:zAq [(k,B)] .one (zBb c) (zCA c) [none,some nd] B S1=.ok R S2):zBo c [some nd] S=.rt (.lst S2.length) (S2++[.lst R]):=by
 simp [zBo,i1,e1,l1,hl,e2]
theorem zXy (c:CLL) {nd:D}{pl:Int}{k:Nat}{B R:List D}{S S1 S2:zA0} (i1:oIx nd (.int 1) S=.ok (.int pl) S) (e1:c "pairs_of" [.int pl] S=.ok (.lst k) S1) (l1:zA6 S1 k=some B) (hl:B.length<lim) (e2:zAq [(k,B)] .one (zBj c) (zCJ c) [none,some nd] B S1=.ok R S2):zBG c [some nd] S=.rt (.lst S2.length) (S2++[.lst R]):=by
 simp [zBG,i1,e1,l1,hl,e2]
theorem zPP {N:Net} (ok:N.g):N.pl=((N.pl.toNat:Nat):Int)∧2≤N.pl.toNat∧N.pl.toNat≤7:=by
 have:=ok.p1
 have:=ok.p2
 omega
theorem zH0 {p:Nat} (hp:p≤7):((prs p p).map prD).length<lim:=by
 have:=zLx p p
 have:p*p≤49:=qM9 hp hp
 rw [qA2,zB0]
 omega
theorem zHS (H:HJo cl) (n:Nat) {N:Net} (ok:N.g) (S:zA0):∃ k S1,cl (n+5) "always_joined" [N.d] S=.ok (.lst k) S1∧Ex S S1∧S.length≤k∧zA6 S1 k=some (((prs N.pl.toNat N.pl.toNat).filter (evQ N)).map prD):=by
 obtain ⟨hpl,h2,h7⟩:=zPP ok
 obtain ⟨k,S1,e1,x1,_,l1⟩:=zIu H.po (n+3) h7 S
 rw [← hpl] at e1
 obtain ⟨S2,e2,x2⟩:=zDF prD (w:=[(k,(prs N.pl.toNat N.pl.toNat).map prD)]) (t:=.one) (tc:=zBb (cl (n+4))) (c:=zCA (cl (n+4))) (ρ0:=[none,some N.d]) (fun S'=>Ex S1 S') (fun S' x=>zCz (x.lst l1 fun z=>z)) (evQ N) prD (prs N.pl.toNat N.pl.toNat) (Kp.refl _ _)
  (fun q hq S' x=>by
   obtain ⟨q1,q2⟩:=zLw hq
   obtain ⟨S3,e3,x3⟩:=zCt H.b n ok (a:=(q.1:Nat)) (b:=(q.2:Nat)) (by omega) (by omega) S'
   obtain ⟨i0,i1⟩:=zWM (q:=q) S'
   exact ⟨_,rfl,S3,al_t _ i0 i1 e3 (zYy _),fun _=>x.trans x3,fun _=>⟨S3,rfl,x.trans x3⟩⟩)
 refine ⟨_,_,?_,(x1.trans x2).trans (zA7 S2 _),qC6 (x1.trans x2).le (qB0 _),zA3 S2 _⟩
 rw [show n+5=(n+4)+1 from rfl,H.al]
 exact zAa rfl (zYz _ (zLC N S) e1 l1 (zH0 h7) e2)
theorem zIx (H:HJo cl) (n:Nat) {N:Net} (ok:N.g) (S:zA0):∃ k S1,cl (n+5) "never_joined" [N.d] S=.ok (.lst k) S1∧Ex S S1∧S.length≤k∧zA6 S1 k=some (((prs N.pl.toNat N.pl.toNat).filter (nvQ N)).map prD):=by
 obtain ⟨hpl,h2,h7⟩:=zPP ok
 obtain ⟨k,S1,e1,x1,_,l1⟩:=zIu H.po (n+3) h7 S
 rw [← hpl] at e1
 obtain ⟨S2,e2,x2⟩:=zDF prD (w:=[(k,(prs N.pl.toNat N.pl.toNat).map prD)]) (t:=.one) (tc:=zBj (cl (n+4))) (c:=zCJ (cl (n+4))) (ρ0:=[none,some N.d]) (fun S'=>Ex S1 S') (fun S' x=>zCz (x.lst l1 fun z=>z)) (nvQ N) prD (prs N.pl.toNat N.pl.toNat) (Kp.refl _ _)
  (fun q hq S' x=>by
   obtain ⟨q1,q2⟩:=zLw hq
   obtain ⟨S3,e3,x3⟩:=zCt H.b n ok (a:=(q.1:Nat)) (b:=(q.2:Nat)) (by omega) (by omega) S'
   obtain ⟨i0,i1⟩:=zWM (q:=q) S'
   exact ⟨_,rfl,S3,ne_t _ i0 i1 e3 (zYx fun x hx=>zRb hx),fun _=>x.trans x3,fun _=>⟨S3,rfl,x.trans x3⟩⟩)
 refine ⟨_,_,?_,(x1.trans x2).trans (zA7 S2 _),qC6 (x1.trans x2).le (qB0 _),zA3 S2 _⟩
 rw [show n+5=(n+4)+1 from rfl,H.ne]
 exact zAa rfl (zXy _ (zLC N S) e1 l1 (zH0 h7) e2)
theorem zSS {N:Net} (ok:N.g) {a b s:Nat}:(betP N (a:Int) (b:Int))[s]?=some 1↔s<2 ^ N.sw.toNat∧Con (rel (tieT N) s) a b:=by
 unfold betP
 rw [zJi]
 constructor
 ·rintro ⟨st,h1,h2⟩
  refine ⟨by rw [← zBI]; exact (qA5.mp h1).1,fun C c0 cc=>?_⟩
  have hg:=zOW ok
  have:=(zIN.mp h2) (fun x=>C x.toNat) c0 (fun e he=>by
   obtain ⟨c,hc0,rfl⟩:=qA9.mp he
   obtain ⟨hc,hs⟩:=qB2.mp hc0
   obtain ⟨a0,ab,bp,_⟩:=ok.c2 c hc
   have r:rel (tieT N) s c.a.toNat c.b.toNat:=zEN.mpr ⟨by omega,by omega,st,h1,pB_t (.inr ⟨c,hc,.inl ⟨by omega,by omega⟩,hs⟩)⟩
   exact ⟨cc _ _ r,cc _ _ (zGF hg r)⟩)
  exact this
 ·rintro ⟨hs,h⟩
  obtain ⟨st,h1⟩:=zJ4 hs
  refine ⟨st,h1,zIN.mpr fun C c0 cc=>?_⟩
  exact h (fun x=>C (x:Int)) c0 fun x y r c=>by
   obtain ⟨_,_,st',q1,q2⟩:=zEN.mp r
   rw [h1] at q1; cases q1
   rcases zDZ.mp q2 with e | ⟨d,hd,ht,hsd⟩
   ·have:(y:Int)=(x:Int):=e.symm
    rw [this]; exact c
   ·have:=cc (d.a,d.b) (qA9.mpr ⟨d,qB2.mpr ⟨hd,hsd⟩,rfl⟩)
    dsimp only at this
    rcases ht with ⟨e1,e2⟩ | ⟨e1,e2⟩
    ·rw [← e2]; rw [← e1] at c; exact this.mp c
    ·rw [← e1]; rw [← e2] at c; exact this.mpr c
theorem zTu (N:Net) (a b:Int):okF N.sw (betP N a b):=by
 refine ⟨by unfold betP; rw [qA2,zBI],fun i hi=>?_⟩
 unfold betP at hi
 obtain ⟨st,_,rfl⟩:=qA9.mp hi
 split <;> decide
theorem zTv {N:Net} (ok:N.g) {a b:Nat} (ha:a<N.pl.toNat) (hb:b<N.pl.toNat):ent (clT N.sw (tieT N)) a b=betP N (a:Int) (b:Int):=by
 have h0:a<(tieT N).length:=by rw [zBq]; exact ha
 have h1:b<(tieT N).length:=by rw [zBq]; exact hb
 refine zGK (zCV (zNq (zGE ok)) (by rw [zBm]; exact h0) (by rw [zBm]; exact h1)).2 (zTu ..) fun s=>?_
 rw [zSS ok]
 constructor
 ·intro h
  obtain ⟨q1,_,_,q4⟩:=zKb.mp (show rel (clT N.sw (tieT N)) s a b from ⟨by rw [zBm]; exact h0,by rw [zBm]; exact h1,h⟩)
  exact ⟨q1,q4⟩
 ·rintro ⟨q1,q4⟩
  exact (zKb.mpr ⟨q1,h0,h1,q4⟩).2.2
theorem zVB {N:Net} (ok:N.g):betP N 0 1=funP N:=by
 have p1:=ok.p1
 rw [← zXZ ok,zTv ok (by omega) (by omega)]; rfl
theorem zNv (N:Net) (a b:Int):betP N a b=betP N b a:=by
 unfold betP
 exact qD5 fun st _=>by rw [zVu]
theorem zPt {pl:Nat}{m:Nat→Nat} (M:Mks pl m):(((reps pl m).flatMap (cls pl m)).map fun b=>((b:Nat):Int)).Perm ((List.range pl).map fun b=>((b:Nat):Int)):=by
 refine List.Perm.map _ ((qM7 ?_ qN5).mpr fun x=>?_)
 ·refine List.pairwise_flatMap.mpr ⟨fun a _=>(zNp pl m a).imp fun {x y} h e=>by omega,?_⟩
  have hn:(reps pl m).Pairwise (·<·):=List.Pairwise.filter _ qI3
  refine hn.imp_of_mem fun {a b} ha hb lt x hx y hy e=>?_
  subst e
  have ra:=(qB2.mp ha).2
  have rb:=(qB2.mp hb).2
  have xa:=(qB2.mp hx).2
  have xb:=(qB2.mp hy).2
  simp only [decide_eq_true_eq] at ra rb xa xb
  omega
 ·rw [qL5,qB5]
  constructor
  ·rintro ⟨a,_,hx⟩
   exact qB5.mp (qB2.mp hx).1
  ·intro hx
   have h1:=M.le x hx
   exact ⟨m x,qB2.mpr ⟨qB5.mpr (by omega),by rw [decide_eq_true_eq]; exact M.idem x hx⟩,qB2.mpr ⟨qB5.mpr hx,by rw [decide_eq_true_eq]; exact (M.idem x hx).symm⟩⟩
theorem zQu {pl:Nat}{m:Nat→Nat} (M:Mks pl m):zI0 (((reps pl m).flatMap (cls pl m)).map fun b=>((b:Nat):Int))=(List.range pl).map fun b=>((b:Nat):Int):=by
 refine (zGI (zPt M).symm ?_).symm
 exact qH7.mpr (qI3.imp fun {a b} h=>by omega)
theorem zXv {N:Net} (ok:N.g) (st:List Int) {a b:Nat} (ha:a<N.pl.toNat) (hb:b<N.pl.toNat):(reps N.pl.toNat (mrk N st)).filter (fun r=>decide (a∈cls N.pl.toNat (mrk N st) r)&&decide (b∈cls N.pl.toNat (mrk N st) r))=[]↔cB N st (a:Int) (b:Int)=false:=by
 have M:=zN0 ok st
 have h:=zGH ok st ha hb
 rw [← zIN] at h
 rw [qG2,← qR2,← h]
 constructor
 ·intro f e
  have h1:=M.le a ha
  refine f (mrk N st a) (qB2.mpr ⟨qB5.mpr (by omega),by rw [decide_eq_true_eq]; exact M.idem a ha⟩) ?_
  rw [qC7,decide_eq_true_eq,decide_eq_true_eq]
  exact ⟨qB2.mpr ⟨qB5.mpr ha,by rw [decide_eq_true_eq]; exact (M.idem a ha).symm⟩,qB2.mpr ⟨qB5.mpr hb,by rw [decide_eq_true_eq,e]; exact (M.idem a ha).symm⟩⟩
 ·intro ne r hr z
  rw [qC7,decide_eq_true_eq,decide_eq_true_eq] at z
  have xa:=(qB2.mp z.1).2
  have xb:=(qB2.mp z.2).2
  simp only [decide_eq_true_eq] at xa xb
  exact ne (by rw [xa,xb])
theorem zUj {p x y:Nat}:(x,y)∈prs p p↔x<y∧y<p:=by
 refine ⟨fun h=>zLw h,fun ⟨h1,h2⟩=>?_⟩
 unfold prs
 refine qL5.mpr ⟨x,qB5.mpr (by omega),?_⟩
 unfold rowQ
 exact qA9.mpr ⟨y - (x+1),qB5.mpr (by omega),by rw [Prod.mk.injEq]; exact ⟨rfl,by omega⟩⟩
theorem zUn {p q:Nat × Nat} (h:prD p=prD q):p=q:=by
 unfold prD at h
 injection h with h
 injection h with h1 h2
 injection h2 with h2 _
 injection h1 with h1
 injection h2 with h2
 exact Prod.ext (by omega) (by omega)
theorem zDd (q:Nat × Nat):plain 40 (prD q)=true:=rfl
theorem zLB {S:zA0}{k:Nat}{gs:List (Nat × Nat)} (h:zA6 S k=some (gs.map prD)) (q:Nat × Nat):oIn false (prD q) (.lst k) S=.ok (.bl (decide (q∈gs))) S:=by
 have e1:=zBN (n:=40) S (zDd q)
 have e2:(gs.map prD).mapM (snap 40 S)=some ((gs.map prD).map (pdat 40)):=zHc fun x hx=>by
  obtain ⟨g,_,rfl⟩:=qA9.mp hx
  exact zBN (n:=40) S (zDd g)
 have e3:((gs.map prD).map (pdat 40)).any (fun d=>PyData.eqv d (pdat 40 (prD q)))=decide (q∈gs):=by
  refine zCW ?_
  rw [qN6,decide_eq_true_iff]
  constructor
  ·rintro ⟨d,hd,hq⟩
   rw [qC0] at hd
   obtain ⟨g,hg,rfl⟩:=qA9.mp hd
   have:=(zDi 40 (prD g) (prD q) (zDd g) (zDd q)).mp hq
   exact zUn this▸hg
  ·intro hf
   refine ⟨pdat 40 (prD q),?_,(zDi 40 _ _ (zDd q) (zDd q)).mpr rfl⟩
   rw [qC0]
   exact qA9.mpr ⟨q,hf,rfl⟩
 unfold oIn
 dsimp only
 have hs:zJ5 S (.lst k)=some (gs.map prD):=h
 have hf:flat (prD q)=none:=rfl
 simp only [hs,hf,e1,e2,e3]
 rfl
theorem zaJ {N:Net} (q:Nat × Nat) (h:evQ N q=true):nvQ N q=false:=by
 unfold evQ at h; unfold nvQ
 rw [qJ0,decide_eq_false_iff_not] at h
 rw [Bool.not_eq_false',decide_eq_true_eq]
 have hl:0<(betP N (q.1:Nat) (q.2:Nat)).length:=by rw [(zTu ..).1]; exact Nat.two_pow_pos _
 have hm:=qD1 hl
 rcases zRb hm with e | e
 ·exact absurd (e▸hm) h
 ·exact e▸hm
theorem zZQ (c:CLL) {w0 w1 w2 w3 w4 w5 w6 w7 w8 w11:Option D}{q:Nat}{zs:List D}{S S1:zA0} (t:tyOk "list" (.lst q) S=true) (m:zCK (.lst q) [.tup zs] S=.ok .non S1) :
  zAy c [w0,w1,w2,w3,w4,w5,w6,w7,w8,some (.lst q),some (.tup zs),w11] S=.nx [w0,w1,w2,w3,w4,w5,w6,w7,w8,some (.lst q),some (.tup zs),w11] S1:=by
 simp [zAy,t,m]
theorem zZO (c:CLL) {a b:Nat}{L:List Nat}{S:zA0}:zAx c [some (.tup (zBk L)),some (.int (a:Nat)),some (.int (b:Nat))] S=.ok (decide (a∈L)&&decide (b∈L)) S:=by
 have q1:=oIn_nats' L a S
 have q2:=oIn_nats' L b S
 cases h:decide (a∈L) <;> simp [zAx,q1,q2,h]
theorem zZT (c:CLL) {d:D}{w1 w2:Option D}{S:zA0}:zAz c [some d,w1,w2] S=.ok d S∧zAf c [some d,w1] S=.ok d S:=⟨by simp [zAz],by simp [zAf]⟩
theorem zZR (c:CLL) {nd st:D}{w0 w2 w5 w8 w9 w10 v10 w11:Option D}{a b bit pl:Int}{k:Nat}{kb:Bool}{X Ls:List D}{S S1 S2 S3 S4 S5 S6 S7:zA0} (e1:c "pieces_at" [nd,st] S=.ok (.lst k) S1) (h2:S1++[O.lst []]=S2) (l2:zA6 S2 k=some X) (lX:X.length<lim)
  (e2:zBC [(k,X)] (gN 10) (zAy c) X [w0,some nd,w2,some (.int a),some (.int b),w5,some (.int bit),some st,some (.lst k),some (.lst S1.length),w10,w11] S2=.nx [w0,some nd,w2,some (.int a),some (.int b),w5,some (.int bit),some st,some (.lst k),some (.lst S1.length),v10,w11] S3)
  (f3:zCL [.lst S1.length] S3=.ok (.lst S3.length) S4) (i1:∀ S,oIx nd (.int 1) S=.ok (.int pl) S) (f4:zDL [.int pl] S4=.ok (.lst S4.length) S5) (q5:oNe (.lst S3.length) (.lst S4.length) S5=.ok (.bl false) S5) (l5:zA6 S5 k=some X)
  (c5:zAq [(k,X)] .one (zAx c) (zAz c) [none,some (.int a),some (.int b)] X S5=.ok Ls S5) (h6:S5++[O.lst Ls]=S6) (h7:S6++[O.lst []]=S7) (q7:oNe (.lst S5.length) (.lst S6.length) S7=.ok (.bl kb) S7) (hb:(if kb=true then (1:Int) else 0)=bit) :
  zAc c [w0,some nd,w2,some (.int a),some (.int b),w5,some (.int bit),some st,w8,w9,w10,w11] S=.nx [w0,some nd,w2,some (.int a),some (.int b),w5,some (.int bit),some st,some (.lst k),some (.lst S1.length),v10,w11] S7:=by
 have s34:stE 1 [3,4] [w0,some nd,w2,some (D.int a),some (.int b),w5,some (.int bit),some st,some (.lst k),some (.lst S1.length),v10,w11]=[none,some (.int a),some (.int b)]:=rfl
 simp [zAc,e1,h2,l2,lX,e2,f3,i1,f4,q5,l5,s34,c5,h6,h7,q7,hb]
inductive XtI (w0 w1 w2 w3 w4 w5 w6 w7 w8 w11:Option D) (k q pl:Nat) (m:Nat→Nat) (X:List D) (S0:zA0) (j:Nat) (ρ:Env1) (S:zA0):Prop
 | mk (v10:Option D) (l:List Nat) (e:ρ=[w0,w1,w2,w3,w4,w5,w6,w7,w8,some (.lst q),v10,w11]) (x:Kp (·=q) S0 S) (hl:zA6 S q=some (zBk l)) (hk:zA6 S k=some X) (el:l=((reps pl m).take j).flatMap (cls pl m)) (hn:l.length≤7*j)
theorem zPy (pl:Nat) (m:Nat→Nat) (a:Nat):plain 39 (pcD pl m a)=true:=by
 unfold pcD zBk
 exact zC0 (n:=38) fun x hx=>by
  obtain ⟨k,_,rfl⟩:=qA9.mp hx
  exact zF8 (by decide) _
theorem zUk (H:HPc cl) (n:Nat) {N:Net} (ok:N.g) {st:List Int} (hs:(st.length:Int)=N.sw) {a b:Nat} (ha:a<N.pl.toNat) (hb:b<N.pl.toNat) {w0 w2 w5 w8 w9 w10 w11:Option D} (S:zA0):∃ v8 v9 v10 S1,zAc (cl (n+3)) [w0,some N.d,w2,some (.int (a:Nat)),some (.int (b:Nat)),w5,some (.int (if cB N st (a:Int) (b:Int) then 1 else 0)),some (zA4 st),w8,w9,w10,w11] S=.nx [w0,some N.d,w2,some (.int (a:Nat)),some (.int (b:Nat)),w5,some (.int (if cB N st (a:Int) (b:Int) then 1 else 0)),some (zA4 st),v8,v9,v10,w11] S1∧Ex S S1:=by
 have M:=zN0 ok st
 obtain ⟨pp,p7⟩:=zIt ok
 have p1:=ok.p1
 have li:=zE1
 obtain ⟨k,S1,e1,x1,k0,l1⟩:=zDy H n ok hs S
 obtain ⟨X,hX⟩:∃ X,tell N.pl.toNat (mrk N st) N.pl.toNat=X:=⟨_,rfl⟩
 have lX:X.length≤N.pl.toNat:=by rw [← hX]; exact zMG ..
 have rX:(reps N.pl.toNat (mrk N st)).map (pcD N.pl.toNat (mrk N st))=X:=by rw [← hX]; rfl
 rw [hX] at l1
 obtain ⟨S2,h2⟩:∃ S2,S1++[O.lst []]=S2:=⟨_,rfl⟩
 have x2:Ex S1 S2:=h2▸zA7 _ _
 have l2:=x2.lst l1 fun z=>z
 have lq:zA6 S2 S1.length=some []:=by rw [← h2]; exact zA3 _ _
 have kq:k≠S1.length:=fun z=>by
  have:k<S1.length:=zEs l1
  omega
 obtain ⟨ρ',S3,e3,v10,l,rfl,x3,lq3,lk3,el,hn⟩:=zBd (w:=[(k,X)]) (g:=gN 10) (b:=zAy (cl (n+3))) (items:=X) (XtI w0 (some N.d) w2 (some (.int (a:Nat))) (some (.int (b:Nat))) w5 (some (.int (if cB N st (a:Int) (b:Int) then 1 else 0))) (some (zA4 st)) (some (.lst k)) w11 k S1.length N.pl.toNat (mrk N st) X S2)
  (ρ:=[w0,some N.d,w2,some (.int (a:Nat)),some (.int (b:Nat)),w5,some (.int (if cB N st (a:Int) (b:Int) then 1 else 0)),some (zA4 st),some (.lst k),some (.lst S1.length),w10,w11]) (S:=S2)
  (fun j ρ S' hp=>by obtain ⟨_,_,_,_,_,hk,_,_⟩:=hp; exact zCz hk) ⟨w10,[],rfl,Kp.refl _ _,lq,l2,by simp,by simp⟩
  (fun j d ρ S' hd hp=>by
   obtain ⟨v10,l,rfl,x,hl,hk,el,hn⟩:=hp
   rw [← rX,qA6] at hd
   obtain ⟨r,hr,rfl⟩:=qA1.mp hd
   have jl:j<(reps N.pl.toNat (mrk N st)).length:=(qA5.mp hr).1
   have jl2:j<7:=by rw [← rX,qA2] at lX; omega
   have cl7:(cls N.pl.toNat (mrk N st) r).length≤7:=by
    have:=qD9 (fun b=>decide (mrk N st b=mrk N st r)) (List.range N.pl.toNat)
    rw [qF3] at this
    unfold cls; omega
   have m1:=zLH hl (zBk (cls N.pl.toNat (mrk N st) r))
   rw [if_pos (by unfold zBk; rw [qA2,qA2]; omega)] at m1
   have ea:zBk l++zBk (cls N.pl.toNat (mrk N st) r)=zBk (l++cls N.pl.toNat (mrk N st) r):=by unfold zBk; rw [qE4]
   rw [ea] at m1
   refine ⟨_,_,rfl,_,_,.inl (zZQ _ (zCl hl) m1),⟨_,l++cls N.pl.toNat (mrk N st) r,rfl,x.trans (zHe _ _),zC1 hl,zEr hk (Ne.symm kq),?_,by rw [qC4]; omega⟩⟩
   rw [qQ4,hr,qP3,← el]
   simp)
 have tk:(reps N.pl.toNat (mrk N st)).take X.length=reps N.pl.toNat (mrk N st):=by rw [← rX,qA2,qL2]
 rw [tk] at el
 have f3:=zM1 (ns:=l.map fun b=>((b:Nat):Int)) (show zA6 S3 S1.length=some ((l.map fun b=>((b:Nat):Int)).map D.int) by rw [qC0]; exact lq3) (by rw [qA2]; omega)
 rw [el,zQu M] at f3
 obtain ⟨S4,h4⟩:∃ S4,S3++[O.lst (((List.range N.pl.toNat).map fun b=>((b:Nat):Int)).map D.int)]=S4:=⟨_,rfl⟩
 rw [h4] at f3
 obtain ⟨S5,h5⟩:∃ S5,S4++[O.lst (((List.range N.pl.toNat).map fun b=>((b:Nat):Int)).map D.int)]=S5:=⟨_,rfl⟩
 have f4:zDL [.int N.pl] S4=.ok (.lst S4.length) S5:=by
  unfold zDL; dsimp only; rw [if_pos (by omega),← h5]
  have:upD 0 N.pl.toNat=((List.range N.pl.toNat).map fun b=>((b:Nat):Int)).map D.int:=by
   rw [qC0]; show (List.range _).map _=_
   exact qD5 fun k _=>by rw [qK8]; rfl
  rw [this]
 have q5:oNe (.lst S3.length) (.lst S4.length) S5=.ok (.bl false) S5:=by rw [← h5,← h4]; exact zH5 (zGb _)
 have x5:Ex S3 S5:=h5▸h4▸(zA7 _ _).trans (zA7 _ _)
 have l5:=x5.lst lk3 fun z=>z
 have c5:zAq [(k,X)] .one (zAx (cl (n+3))) (zAz (cl (n+3))) [none,some (.int (a:Nat)),some (.int (b:Nat))] X S5=.ok (((reps N.pl.toNat (mrk N st)).filter fun r=>decide (a∈cls N.pl.toNat (mrk N st) r)&&decide (b∈cls N.pl.toNat (mrk N st) r)).map (pcD N.pl.toNat (mrk N st))) S5:=by
  conv=>lhs; arg 6; rw [← rX]
  exact zBF (pcD N.pl.toNat (mrk N st)) (zCz l5) _ (pcD N.pl.toNat (mrk N st)) _ fun r _=>⟨_,rfl,zZO _,fun _=>(zZT _).1⟩
 obtain ⟨Ls,hLs⟩:∃ Ls,((reps N.pl.toNat (mrk N st)).filter fun r=>decide (a∈cls N.pl.toNat (mrk N st) r)&&decide (b∈cls N.pl.toNat (mrk N st) r)).map (pcD N.pl.toNat (mrk N st))=Ls:=⟨_,rfl⟩
 rw [hLs] at c5
 obtain ⟨S6,h6⟩:∃ S6,S5++[O.lst Ls]=S6:=⟨_,rfl⟩
 obtain ⟨S7,h7⟩:∃ S7,S6++[O.lst []]=S7:=⟨_,rfl⟩
 have q7:oNe (.lst S5.length) (.lst S6.length) S7=.ok (.bl (!eqB Ls [])) S7:=by
  rw [← h7,← h6]
  refine zPM (zCs (zA3 S5 Ls)) (zA3 _ []) (qE5.mpr fun x hx=>?_) rfl
  rw [← hLs] at hx
  obtain ⟨r,_,rfl⟩:=qA9.mp hx
  exact zPy ..
 have hb':(if (!eqB Ls [])=true then (1:Int) else 0)=(if cB N st (a:Int) (b:Int) then 1 else 0):=by
  have:(!eqB Ls [])=cB N st (a:Int) (b:Int):=by
   have o:=zXv ok st ha hb
   have z:eqB Ls []=true↔cB N st (a:Int) (b:Int)=false:=by
    rw [zCg,← hLs,List.map_eq_nil_iff]; exact o
   cases hc:cB N st (a:Int) (b:Int) with
   | false=>rw [z.mpr hc]; rfl
   | true =>
    cases he:eqB Ls [] with
    | false=>rfl
    | true=>rw [z.mp he] at hc; cases hc
  rw [this]
 have x7:Ex S5 S7:=h7▸h6▸(zA7 _ _).trans (zA7 _ _)
 have le1:=x1.le
 refine ⟨some (.lst k),some (.lst S1.length),v10,S7,zZR (cl (n+3)) e1 h2 l2 (by omega) e3 f3 (zMY N) f4 q5 l5 c5 h6 h7 q7 hb',?_⟩
 exact ((Ex.kp (x1.trans x2)).trans (x3.trans (Ex.kp (x5.trans x7)))).mono fun j hj e=>by omega
structure HPr (cl:Nat→CLL):Prop where
 f:HF cl
 c:HCo cl
 to:zF0 cl
 tr:zDH cl
 ti:zHV cl
 j:HJo cl
 p:HPc cl
 ta:zBp cl
 pr:zCb cl
theorem zZS (c:CLL) {i:Nat}{nd:D}{pl r:Int}{d:D}{S S1:zA0} (i1:oIx nd (.int 1) S=.ok (.int pl) S) (e:c "_law_take" [.lst i,.int pl] S=.ok (.int r) S1):zA8 c [some d,some (.lst i),some nd] S=.ok (.int r) S1:=by
 simp [zA8,i1,e]
theorem zZe (ht:zBp cl) (n:Nat) {N:Net} (ok:N.g) {S:zA0}{i:Nat} (st:StOk S i):∃ (a b:Nat) (S1:zA0),zAq [] .one (fun _=>ret true) (zA8 (cl (n+1))) [none,some (.lst i),some N.d] (upD 0 2) S=.ok [.int (a:Nat),.int (b:Nat)] S1∧a<N.pl.toNat∧b<N.pl.toNat∧Kp (·=i) S S1∧StOk S1 i:=by
 have p1:=ok.p1
 have p2:=ok.p2
 obtain ⟨l,S',e,ln,hb,kp,st'⟩:∃ (l:List D) (S':zA0),zAq [] .one (fun _=>ret true) (zA8 (cl (n+1))) [none,some (.lst i),some N.d] (upD 0 2) S=.ok l S'∧l.length=2∧(∀ d∈l,∃ a:Nat,d=.int (a:Nat)∧a<N.pl.toNat)∧Kp (·=i) S S'∧StOk S' i:=by
  obtain ⟨ds,S',e,ln,hb,kp,st'⟩:=zQP (w:=[]) (t:=.one) (c:=zA8 (cl (n+1))) (ρ0:=[none,some (.lst i),some N.d]) (fun acc S'=>(∀ d∈acc,∃ a:Nat,d=.int (a:Nat)∧a<N.pl.toNat)∧Kp (·=i) S S'∧StOk S' i) (fun _ _ _=>zAp _) (upD 0 2) [] (S:=S) ⟨fun d hd=>(by cases hd),Kp.refl _ _,st⟩
   (fun d hd acc S1 hP=>by
    obtain ⟨hb,kp,st1⟩:=hP
    obtain ⟨r,S2,e,r0,r1,k2,_,st2⟩:=zAE ht n st1 (m:=N.pl) (by omega) (by omega)
    refine ⟨_,rfl,.int r,S2,zZS _ (zMY N S1) e,fun x hx=>?_,kp.trans k2,st2⟩
    rcases qD2.mp hx with hx | hx
    ·exact hb x hx
    ·rw [qE6.mp hx]
     exact ⟨r.toNat,by rw [show ((r.toNat:Nat):Int)=r by omega],by omega⟩)
  rw [qK1] at hb
  exact ⟨ds,S',e,by rw [ln,zBL],hb,kp,st'⟩
 match l,ln with
 | [x,y],_ =>
  obtain ⟨a,rfl,ha⟩:=hb x (by simp)
  obtain ⟨b,rfl,hb'⟩:=hb y (by simp)
  exact ⟨a,b,S',e,ha,hb',kp,st'⟩
theorem zUm (c:CLL) {sd nd t0 td fd rd:D}{BL B Z A:List D}{a b sw:Int}{k k2:Nat}{v6 v7 v8 v9 v10:Option D}{S S1 S2 S3 S4 S5 S6 S7 S8 S9 S10 S11 S12 S13 S14:zA0} (e1:c "table_of" [nd] S=.ok t0 S1) (e2:c "closed" [t0] S1=.ok td S2) (e3:zAq [] .one (fun _=>ret true) (zA8 c) [none,some sd,some nd] (upD 0 2) S2=.ok [.int a,.int b] S3) (h4:S3++[O.lst [.int a,.int b]]=S4)
  (g4:gT [gN 3,gN 4] (.lst S3.length) [some sd,some nd,some td,none,none,none,none,none,none,none,none,none] S4=.ok [some sd,some nd,some td,some (.int a),some (.int b),none,none,none,none,none,none,none] S4)
  (e5:c "between" [nd,.int a,.int b] S4=.ok (.tup BL) S5) (e6:c "between" [nd,.int 0,.int 1] S5=.ok fd S6) (e7:c "function_of" [nd] S6=.ok fd S7) (q7:oNe fd fd S7=.ok (.bl false) S7) (i8:oIx td (.int a) S7=.ok rd S7) (i9:oIx rd (.int b) S7=.ok (.tup BL) S7) (q8:∀ S,oNe (.tup BL) (.tup BL) S=.ok (.bl false) S) (e9:c "between" [nd,.int b,.int a] S7=.ok (.tup BL) S8)
  (i0:∀ S,oIx nd (.int 0) S=.ok (.int sw) S) (e10:c "settings" [.int sw] S8=.ok (.lst k) S9) (l9:zA6 S9 k=some B) (z:zipD BL B=Z) (e11:zBC [(k,B)] (gT [gN 6,gN 7]) (zAc c) Z [some sd,some nd,some td,some (.int a),some (.int b),some (.tup BL),none,none,none,none,none,none] S9=.nx [some sd,some nd,some td,some (.int a),some (.int b),some (.tup BL),v6,v7,v8,v9,v10,none] S10)
  (e12:c "always_joined" [nd] S10=.ok (.lst k2) S11) (l11:zA6 S11 k2=some A) (lA:A.length<lim) (c12:zAq [(k2,A)] .one (zAe c) (zAf c) [none,some nd] A S11=.ok [] S12) (h13:S12++[O.lst []]=S13) (h14:S13++[O.lst []]=S14) (q14:oNe (.lst S12.length) (.lst S13.length) S14=.ok (.bl false) S14) (ab:a=b) :
  zAd c [some sd,some nd,none,none,none,none,none,none,none,none,none,none] S=.rt (.bl true) S14:=by
 have u2:(upD 0 2).length<lim:=by rw [zBL,zB0]; decide
 have s01:stE 1 [0,1] [some sd,some nd,some td,none,none,none,none,none,none,none,none,none]=[none,some sd,some nd]:=rfl
 have s1:stE 1 [1] [some sd,some nd,some td,some (D.int a),some (.int b),some (.tup BL),v6,v7,v8,v9,v10,none]=[none,some nd]:=rfl
 subst ab
 simp [-zXW,zAd,u2,e1,e2,s01,e3,h4,g4,e5,e6,e7,q7,i8,i9,q8,e9,i0,e10,l9,z,e11,e12,l11,lA,s1,c12,h13,h14,q14]
theorem zUl (c:CLL) {sd nd t0 td fd rd:D}{BL B Z A:List D}{a b sw x y:Int}{k k2 k3 k4:Nat}{t1 t2:Bool}{v6 v7 v8 v9 v10:Option D}{S S1 S2 S3 S4 S5 S6 S7 S8 S9 S10 S11 S12 S13 S14 S15 S16:zA0} (e1:c "table_of" [nd] S=.ok t0 S1) (e2:c "closed" [t0] S1=.ok td S2) (e3:zAq [] .one (fun _=>ret true) (zA8 c) [none,some sd,some nd] (upD 0 2) S2=.ok [.int a,.int b] S3) (h4:S3++[O.lst [.int a,.int b]]=S4)
  (g4:gT [gN 3,gN 4] (.lst S3.length) [some sd,some nd,some td,none,none,none,none,none,none,none,none,none] S4=.ok [some sd,some nd,some td,some (.int a),some (.int b),none,none,none,none,none,none,none] S4)
  (e5:c "between" [nd,.int a,.int b] S4=.ok (.tup BL) S5) (e6:c "between" [nd,.int 0,.int 1] S5=.ok fd S6) (e7:c "function_of" [nd] S6=.ok fd S7) (q7:oNe fd fd S7=.ok (.bl false) S7) (i8:oIx td (.int a) S7=.ok rd S7) (i9:oIx rd (.int b) S7=.ok (.tup BL) S7) (q8:∀ S,oNe (.tup BL) (.tup BL) S=.ok (.bl false) S) (e9:c "between" [nd,.int b,.int a] S7=.ok (.tup BL) S8)
  (i0:∀ S,oIx nd (.int 0) S=.ok (.int sw) S) (e10:c "settings" [.int sw] S8=.ok (.lst k) S9) (l9:zA6 S9 k=some B) (z:zipD BL B=Z) (e11:zBC [(k,B)] (gT [gN 6,gN 7]) (zAc c) Z [some sd,some nd,some td,some (.int a),some (.int b),some (.tup BL),none,none,none,none,none,none] S9=.nx [some sd,some nd,some td,some (.int a),some (.int b),some (.tup BL),v6,v7,v8,v9,v10,none] S10)
  (e12:c "always_joined" [nd] S10=.ok (.lst k2) S11) (l11:zA6 S11 k2=some A) (lA:A.length<lim) (c12:zAq [(k2,A)] .one (zAe c) (zAf c) [none,some nd] A S11=.ok [] S12) (h13:S12++[O.lst []]=S13) (h14:S13++[O.lst []]=S14) (q14:oNe (.lst S12.length) (.lst S13.length) S14=.ok (.bl false) S14) (ab:a≠b)
  (hx:(if b<a then b else a)=x) (hy:(if a<b then b else a)=y) (e15:c "always_joined" [nd] S14=.ok (.lst k3) S15) (q15:oIn false (.tup [.int x,.int y]) (.lst k3) S15=.ok (.bl t1) S15) (r15:oIn true (.int 0) (.tup BL) S15=.ok (.bl t1) S15) (e16:c "never_joined" [nd] S15=.ok (.lst k4) S16) (q16:oIn false (.tup [.int x,.int y]) (.lst k4) S16=.ok (.bl t2) S16) (r16:oIn true (.int 1) (.tup BL) S16=.ok (.bl t2) S16) :
  zAd c [some sd,some nd,none,none,none,none,none,none,none,none,none,none] S=.rt (.bl true) S16:=by
 have u2:(upD 0 2).length<lim:=by rw [zBL,zB0]; decide
 have s01:stE 1 [0,1] [some sd,some nd,some td,none,none,none,none,none,none,none,none,none]=[none,some sd,some nd]:=rfl
 have s1:stE 1 [1] [some sd,some nd,some td,some (D.int a),some (.int b),some (.tup BL),v6,v7,v8,v9,v10,none]=[none,some nd]:=rfl
 simp [-zXW,zAd,u2,e1,e2,s01,e3,h4,g4,e5,e6,e7,q7,i8,i9,q8,e9,i0,e10,l9,z,e11,e12,l11,lA,s1,c12,h13,h14,q14,ab,hx,hy,e15,q15,r15,e16,q16,r16]
theorem zZP (c:CLL) {q nd:D}{k:Nat}{b:Bool}{S S1:zA0} (e:c "never_joined" [nd] S=.ok (.lst k) S1) (o:oIn false q (.lst k) S1=.ok (.bl b) S1):zAe c [some q,some nd] S=.ok b S1:=by
 simp [zAe,e,o]
inductive PrI (w0 w1 w2 w3 w4 w5:Option D) (S0:zA0) (ρ:Env1) (S:zA0):Prop
 | mk (v6 v7 v8 v9 v10:Option D) (e:ρ=[w0,w1,w2,w3,w4,w5,v6,v7,v8,v9,v10,none]) (x:Ex S0 S)
theorem zRa (N:Net) (a b:Int):zipD ((betP N a b).map D.int) ((sett N.sw.toNat).map zA4)=(sett N.sw.toNat).map fun st=>D.tup [.int (if cB N st a b then 1 else 0),zA4 st]:=by
 unfold zipD betP
 rw [qC0,List.zip_map',qC0]
 rfl
theorem zKh (H:HPr cl) (n:Nat) {N:Net} (ok:N.g) {S:zA0}{i:Nat} (hS:StOk S i):SrR (cl (n+8) "_law_places_right" [.lst i,N.d] S) S i:=by
 have p1:=ok.p1
 have p2:=ok.p2
 have okT':=zGE ok
 have g:=zOW ok
 obtain ⟨S1,e1,x1⟩:=zJ1 H.to H.tr H.ti H.f n ok S
 obtain ⟨S2,e2,x2⟩:=zM9 H.c (n+2) ok.s1 ok.s2 okT' g S1
 obtain ⟨a,b,S3,e3,ha,hb,k3,st3⟩:=zZe H.ta (n+6) ok (hS.ex (x1.trans x2))
 obtain ⟨S4,h4⟩:∃ S4,S3++[O.lst [D.int (a:Nat),.int (b:Nat)]]=S4:=⟨_,rfl⟩
 have x4:Ex S3 S4:=h4▸zA7 _ _
 have g4:=zXV (show zA6 S4 S3.length=some [D.int (a:Nat),.int (b:Nat)] by rw [← h4]; exact zA3 _ _) [gN 3,gN 4] [some (.lst i),some N.d,some (tD (clT N.sw (tieT N))),none,none,none,none,none,none,none,none,none]
 obtain ⟨S5,e5,x5⟩:=zCt H.j.b (n+3) ok (a:=(a:Nat)) (b:=(b:Nat)) (by omega) (by omega) S4
 obtain ⟨S6,e6,x6⟩:=zCt H.j.b (n+3) ok (a:=0) (b:=1) (by omega) (by omega) S5
 rw [zVB ok] at e6
 obtain ⟨S7,e7,x7⟩:=H.f.fun (n+3) ok S6
 have okC:=zNq okT'
 have la:a<(clT N.sw (tieT N)).length:=by rw [zBm,zBq]; exact ha
 have lb:b<(clT N.sw (tieT N)).length:=by rw [zBm,zBq]; exact hb
 have i8:=zQ5 okC la S7
 have i9:=zQ6 okC la lb S7
 rw [zTv ok ha hb] at i9
 obtain ⟨S8,e9,x8⟩:=zCt H.j.b (n+3) ok (a:=(b:Nat)) (b:=(a:Nat)) (by omega) (by omega) S7
 rw [zNv] at e9
 obtain ⟨k,S9,e10,x9,_,l9⟩:=zBU H.f.se (n+6) (sw:=N.sw) (by have:=ok.s1; omega) ok.s2 S8
 obtain ⟨ρ',S10,e11,v6,v7,v8,v9,v10,rfl,x10⟩:=zBd (w:=[(k,(sett N.sw.toNat).map zA4)]) (g:=gT [gN 6,gN 7]) (b:=zAc (cl (n+7))) (items:=(sett N.sw.toNat).map fun st=>D.tup [.int (if cB N st (a:Nat) (b:Nat) then 1 else 0),zA4 st])
  (fun _=>PrI (some (.lst i)) (some N.d) (some (tD (clT N.sw (tieT N)))) (some (.int (a:Nat))) (some (.int (b:Nat))) (some (zA4 (betP N (a:Nat) (b:Nat)))) S9)
  (ρ:=[some (.lst i),some N.d,some (tD (clT N.sw (tieT N))),some (.int (a:Nat)),some (.int (b:Nat)),some (zA4 (betP N (a:Nat) (b:Nat))),none,none,none,none,none,none]) (S:=S9)
  (fun j ρ S' hp=>by obtain ⟨_,_,_,_,_,_,x⟩:=hp; exact zCz (x.lst l9 fun z=>z)) ⟨none,none,none,none,none,rfl,Kp.refl _ _⟩
  (fun j d ρ S' hd hp=>by
   obtain ⟨v6,v7,v8,v9,v10,rfl,x⟩:=hp
   rw [qA6] at hd
   obtain ⟨st,hst,rfl⟩:=qA1.mp hd
   obtain ⟨u8,u9,u10,T,et,xt⟩:=zUk H.p (n+4) ok (sett_len' ok (qB9 hst)) ha hb (w0:=some (.lst i)) (w2:=some (tD (clT N.sw (tieT N)))) (w5:=some (zA4 (betP N (a:Nat) (b:Nat)))) (w8:=v8) (w9:=v9) (w10:=v10) (w11:=none) S'
   exact ⟨_,_,rfl,_,_,.inl et,⟨_,_,_,_,_,rfl,x.trans xt⟩⟩)
 obtain ⟨k2,S11,e12,x11,_,l11⟩:=zHS H.j (n+2) ok S10
 obtain ⟨_,_,h7⟩:=zPP ok
 have sm:∀ f:Nat × Nat→Bool,(((prs N.pl.toNat N.pl.toNat).filter f).map prD).length<lim:=fun f=>by
  have:=zH0 h7
  rw [qA2] at this ⊢
  exact qG5 (qD9 _ _) this
 obtain ⟨S12,c12,x12⟩:=zDF prD (w:=[(k2,((prs N.pl.toNat N.pl.toNat).filter (evQ N)).map prD)]) (t:=.one) (tc:=zAe (cl (n+7))) (c:=zAf (cl (n+7))) (ρ0:=[none,some N.d]) (fun S'=>Ex S11 S') (fun S' x=>zCz (x.lst l11 fun z=>z)) (fun _=>false) prD ((prs N.pl.toNat N.pl.toNat).filter (evQ N)) (Kp.refl _ _)
  (fun q hq S' x=>by
   obtain ⟨kk,Sa,ea,xa,_,la⟩:=zIx H.j (n+2) ok S'
   have o:=zLB la q
   have:¬ q∈(prs N.pl.toNat N.pl.toNat).filter (nvQ N):=fun z=>by
    have z1:=(qB2.mp z).2
    rw [zaJ q (qB2.mp hq).2] at z1
    cases z1
   rw [decide_eq_false this] at o
   exact ⟨_,rfl,Sa,zZP _ ea o,fun _=>x.trans xa,fun z=>by cases z⟩)
 rw [show ((prs N.pl.toNat N.pl.toNat).filter (evQ N)).filter (fun _=>false)=[] from qG2.mpr fun _ _=>by simp] at c12
 obtain ⟨S13,h13⟩:∃ S13,S12++[O.lst []]=S13:=⟨_,rfl⟩
 obtain ⟨S14,h14⟩:∃ S14,S13++[O.lst []]=S14:=⟨_,rfl⟩
 have q14:oNe (.lst S12.length) (.lst S13.length) S14=.ok (.bl false) S14:=by rw [← h14,← h13]; exact zH5 rfl
 have x14:Ex S12 S14:=h14▸h13▸(zA7 _ _).trans (zA7 _ _)
 have xx:Ex S3 S14:=x4.trans (x5.trans (x6.trans (x7.trans (x8.trans (x9.trans (x10.trans (x11.trans (x12.trans x14))))))))
 have kk:=((x1.trans x2).kp (P:=(·=i))).trans (k3.trans xx.kp)
 have st14:=st3.ex xx
 by_cases hab:a=b
 ·refine ⟨S14,?_,kk,st14⟩
  rw [show n+8=(n+7)+1 from rfl,H.pr]
  exact zAa rfl (zUm _ e1 e2 e3 h4 g4 e5 e6 e7 (zFW _ S7).2 i8 i9 (fun S=>(zFW _ S).2) e9 (zLD N) e10 l9 (zRa N _ _) e11 e12 l11 (sm _) c12 h13 h14 q14 (by omega))
 ·obtain ⟨x,y,hx,hy,xy⟩:∃ x y:Nat,(if (b:Int)<(a:Int) then (b:Int) else (a:Int))=(x:Int)∧(if (a:Int)<(b:Int) then (b:Int) else (a:Int))=(y:Int)∧((x=a∧y=b∧a<b)∨(x=b∧y=a∧b<a)):=by
   rcases qP9 hab with h | h
   ·exact ⟨a,b,if_neg (by omega),if_pos (by omega),.inl ⟨rfl,rfl,h⟩⟩
   ·exact ⟨b,a,if_pos (by omega),if_neg (by omega),.inr ⟨rfl,rfl,h⟩⟩
  have mm:(x,y)∈prs N.pl.toNat N.pl.toNat:=zUj.mpr (by omega)
  have be:betP N ((x:Nat):Int) ((y:Nat):Int)=betP N (a:Nat) (b:Nat):=by
   rcases xy with ⟨rfl,rfl,_⟩ | ⟨rfl,rfl,_⟩
   ·rfl
   ·exact zNv ..
  obtain ⟨k3',S15,e15,x15,_,l15⟩:=zHS H.j (n+2) ok S14
  obtain ⟨k4',S16,e16,x16,_,l16⟩:=zIx H.j (n+2) ok S15
  have q15:=zLB l15 (x,y)
  have q16:=zLB l16 (x,y)
  have d1:decide ((x,y)∈(prs N.pl.toNat N.pl.toNat).filter (evQ N))=!decide ((0:Int)∈betP N (a:Nat) (b:Nat)):=by
   rw [← be,qE7,decide_eq_true_eq,qB2]
   exact ⟨fun z=>z.2,fun z=>⟨mm,z⟩⟩
  have d2:decide ((x,y)∈(prs N.pl.toNat N.pl.toNat).filter (nvQ N))=!decide ((1:Int)∈betP N (a:Nat) (b:Nat)):=by
   rw [← be,qE7,decide_eq_true_eq,qB2]
   exact ⟨fun z=>z.2,fun z=>⟨mm,z⟩⟩
  rw [d1] at q15
  rw [d2] at q16
  refine ⟨S16,?_,kk.trans (x15.trans x16).kp,st14.ex (x15.trans x16)⟩
  rw [show n+8=(n+7)+1 from rfl,H.pr]
  exact zAa rfl (zUl _ e1 e2 e3 h4 g4 e5 e6 e7 (zFW _ S7).2 i8 i9 (fun S=>(zFW _ S).2) e9 (zLD N) e10 l9 (zRa N _ _) e11 e12 l11 (sm _) c12 h13 h14 q14 (by omega) hx hy e15 q15 (zGG true 0 _ S15) e16 q16 (zGG true 1 _ S16))
theorem zUL (cs:List Ct) (S:zA0):oNe (.tup (cs.map Ct.d)) (.tup []) S=.ok (.bl (!cs.isEmpty)) S:=by
 have p:plain 40 (.tup (cs.map Ct.d))=true:=zC0 (n:=39) fun x hx=>by
  obtain ⟨c,_,rfl⟩:=qA9.mp hx
  exact zC0 (n:=38) fun y hy=>by
   simp only [qB7,qF7,or_false] at hy
   rcases hy with rfl | rfl | rfl | rfl <;> exact zF8 (by decide) _
 rw [zFa S p rfl]
 have:eqB (D.tup (cs.map Ct.d)) (.tup [])=cs.isEmpty:=zCW (zCg.trans (by
  cases cs with
  | nil=>exact ⟨fun _=>rfl,fun _=>rfl⟩
  | cons _ _=>exact ⟨fun z=>(by injection z with z; cases z),fun z=>(by cases z)⟩))
 rw [this]
structure HL84 (cl:Nat→CLL):Prop where
 d:HD cl
 p:HPr cl
 s:HSr cl
 c:HCr cl
theorem zSj (c:CLL) {sc jd nd:D}{C:List D}{w2 w3:Option D}{i0:Nat}{r1 mo:Int}{S S1 S2 S3 S4 S5 S6:zA0} (e1:c "_law_state" [sc,jd] S=.ok (.lst i0) S1) (h2:S1++[.lst [.int 5,.int 8,.int 12]]=S2) (e3:c "_law_take" [.lst i0,.int 3] S2=.ok (.int r1) S3) (em:oIx (.lst S1.length) (.int r1) S3=.ok (.int mo) S3) (e4:c "_law_net" [.lst i0,.int 4,.int 7,.int mo] S3=.ok nd S4)
  (e5:c "_law_places_right" [.lst i0,nd] S4=.ok (.bl true) S5) (e6:c "_law_switches_right" [.lst i0,nd] S5=.ok (.bl true) S6) (i2:∀ S,oIx nd (.int 2) S=.ok (.tup C) S) (q:oNe (.tup C) (.tup []) S6=.ok (.bl false) S6) :
  zCe c [some sc,some jd,w2,w3] S=.nx [some sc,some jd,some (.lst i0),some nd] S6:=by
 simp [zCe,e1,h2,e3,em,e4,e5,e6,i2,q]
theorem zSi (c:CLL) {sc jd nd:D}{C:List D}{w2 w3:Option D}{i0:Nat}{r1 mo lc r:Int}{S S1 S2 S3 S4 S5 S6 S7 S8:zA0} (e1:c "_law_state" [sc,jd] S=.ok (.lst i0) S1) (h2:S1++[.lst [.int 5,.int 8,.int 12]]=S2) (e3:c "_law_take" [.lst i0,.int 3] S2=.ok (.int r1) S3) (em:oIx (.lst S1.length) (.int r1) S3=.ok (.int mo) S3) (e4:c "_law_net" [.lst i0,.int 4,.int 7,.int mo] S3=.ok nd S4)
  (e5:c "_law_places_right" [.lst i0,nd] S4=.ok (.bl true) S5) (e6:c "_law_switches_right" [.lst i0,nd] S5=.ok (.bl true) S6) (i2:∀ S,oIx nd (.int 2) S=.ok (.tup C) S) (q:oNe (.tup C) (.tup []) S6=.ok (.bl true) S6) (hlc:(C.length:Int)=lc) (e7:c "_law_take" [.lst i0,.int lc] S6=.ok (.int r) S7) (e8:c "_law_cut_right" [nd,.int r] S7=.ok (.bl true) S8) :
  zCe c [some sc,some jd,w2,w3] S=.nx [some sc,some jd,some (.lst i0),some nd] S8:=by
 simp [zCe,e1,h2,e3,em,e4,e5,e6,i2,q,hlc,e7,e8]
theorem zZF (H:HL84 cl) (n:Nat) (ns:List Int) {sc:D} (hsc:D.rol (ns.map D.int)=sc) (jj:Int) (hj:0≤jj) (S:zA0) (w2 w3:Option D):∃ v2 v3 S',zCe (cl (n+8)) [some sc,some (.int jj),w2,w3] S=.nx [some sc,some (.int jj),v2,v3] S':=by
 obtain ⟨S1,e1,x1,st1⟩:=zNI H.d.st H.d.ce (n+6) ns jj hj S
 rw [hsc] at e1
 obtain ⟨i0,hi0⟩:∃ i0,S.length=i0:=⟨_,rfl⟩
 rw [hi0] at e1 st1
 have x2:=zA7 S1 [.lst [.int 5,.int 8,.int 12]]
 obtain ⟨r1,S3,e3,b1,b2,k3,n3,st3⟩:=zAE H.d.ta (n+7) (st1.ex x2) (m:=3) (by decide) (by decide)
 have l3:zA6 S3 S1.length=some [.int 5,.int 8,.int 12]:=k3.lst (zA3 _ _) (by have:=st1.lt; omega)
 obtain ⟨mo,em,mo1,mo2⟩:∃ mo,oIx (.lst S1.length) (.int r1) S3=.ok (.int mo) S3∧0≤mo∧mo≤16:=by
  have e:=zFJ l3 r1
  have:r1=0∨r1=1∨r1=2:=by omega
  rcases this with rfl | rfl | rfl
  ·exact ⟨5,by rw [e]; rfl,by decide,by decide⟩
  ·exact ⟨8,by rw [e]; rfl,by decide,by decide⟩
  ·exact ⟨12,by rw [e]; rfl,by decide,by decide⟩
 obtain ⟨N,S4,e4,okN,k4,st4⟩:=zSa H.d.ne H.d.en H.d.ta (n+5) st3 (ms:=4) (mp:=7) (mc:=mo) (by decide) (by decide) ⟨mo1,mo2⟩
 have ok:N.g:=okN.up (by decide) (by decide) mo2
 obtain ⟨S5,e5,k5,st5⟩:=zKh H.p n ok st4
 obtain ⟨S6,e6,k6,st6⟩:=zHY H.s (n+1) ok st5
 have i2:∀ S,oIx N.d (.int 2) S=.ok (.tup (N.cs.map Ct.d)) S:=fun S=>by unfold Net.d; simp
 have q:=zUL N.cs S6
 cases hE:N.cs.isEmpty with
 | true =>
  rw [hE] at q
  exact ⟨_,_,S6,zSj _ e1 rfl e3 em e4 e5 e6 i2 q⟩
 | false =>
  rw [hE] at q
  have hlen:0<N.cs.length:=by
   cases hc:N.cs with
   | nil=>rw [hc] at hE; cases hE
   | cons _ _=>simp
  have c1:=ok.c1
  obtain ⟨r,S7,e7,a0,a1,k7,n7,st7⟩:=zAE H.d.ta (n+7) st6 (m:=((N.cs.map Ct.d).length:Int)) (by rw [qA2]; omega) (by rw [qA2]; omega)
  rw [qA2] at a1
  have hr:r=((r.toNat:Nat):Int):=by omega
  obtain ⟨S8,e8,x8⟩:=zQK H.c (n+3) ok (i:=r.toNat) (qA0 (by omega)) S7
  rw [← hr] at e8
  exact ⟨_,_,S8,zSi _ e1 rfl e3 em e4 e5 e6 i2 q rfl e7 e8⟩
theorem zax (h:zIR cl) (H:HL84 cl) (n:Nat) (ns:List Int):∃ S',cl (n+9) "law" [.rol (ns.map D.int)] []=.ok (.bl true) S':=by
 rw [show n+9=(n+8)+1 from rfl,h]
 generalize hsc:D.rol (ns.map D.int)=sc
 have hm:∃ q:Int,(if (if (6:Int)<(ns.length:Int) then 6 else (ns.length:Int))>1 then (if (6:Int)<(ns.length:Int) then 6 else (ns.length:Int)) else 1)=q∧0≤q∧q≤6:=⟨_,rfl,by split <;> (try split) <;> omega,by split <;> (try split) <;> omega⟩
 obtain ⟨q,hq,q0,q6⟩:=hm
 obtain ⟨ρ',S1,e1,v1,v2,v3,rfl⟩:=zBd (w:=[]) (g:=gN 1) (b:=zCe (cl (n+8))) (items:=upD 0 q.toNat)
  (fun j ρ S=>∃ v1 v2 v3,ρ=[some sc,v1,v2,v3]) (ρ:=[some sc,none,none,none]) (S:=[])
  (fun j ρ S hp=>zAp _) ⟨none,none,none,rfl⟩
  (fun j d ρ S hd hp=>by
   obtain ⟨v1,v2,v3,rfl⟩:=hp
   rw [zEI] at hd
   obtain ⟨hj,rfl⟩:=hd
   obtain ⟨u2,u3,S2,e2⟩:=zZF H n ns hsc (0+(j:Int)) (by omega) S v2 v3
   exact ⟨_,_,rfl,_,S2,.inl e2,_,_,_,rfl⟩)
 refine ⟨S1,zAa rfl ?_⟩
 have f2:-4611686018427387904≤q∧q<4611686018427387904:=by omega
 rw [← hsc] at e1 ⊢
 simp [zFt,zAu,hq,f2,e1]
end My
set_option maxHeartbeats 4000000
namespace My
open PySem L2
noncomputable def tbl:Tbl:=[(("is_whole":Str),(1,1,zBR)),
 (("settings":Str),(1,3,zEx)),
 (("is_shut":Str),(2,2,zFu)),
 (("shut_at":Str),(2,2,zFs)),
 (("places_from":Str),(2,5,zCC)),
 (("joins":Str),(1,1,zJB)),
 (("shut_contacts":Str),(2,2,zC6)),
 (("lets":Str),(2,2,zNw)),
 (("function_of":Str),(1,1,zCD)),
 (("where_both":Str),(2,2,zEf)),
 (("where_either":Str),(2,2,zD1)),
 (("turned_contact":Str),(2,2,zBa)),
 (("turned":Str),(2,2,zGL)),
 (("named_contact":Str),(2,2,zC8)),
 (("named":Str),(2,2,zJA)),
 (("pieces_at":Str),(2,6,zCN)),
 (("rings_at":Str),(2,2,zDq)),
 (("refuse_no_place":Str),(2,2,zB1)),
 (("in_one_piece":Str),(4,4,zCp)),
 (("between":Str),(3,3,zEh)),
 (("pairs_of":Str),(1,3,zDr)),
 (("always_joined":Str),(1,1,zBo)),
 (("never_joined":Str),(1,1,zBG)),
 (("exchanged":Str),(2,2,zCP)),
 (("turn_counts":Str),(1,4,zC5)),
 (("used":Str),(1,1,zLb)),
 (("refuse_no_contact":Str),(2,2,zB5)),
 (("cut":Str),(2,2,zSU)),
 (("same_both_ways":Str),(1,3,zAv)),
 (("tied":Str),(3,5,zHO)),
 (("tied_row":Str),(2,2,zDo)),
 (("table_of":Str),(1,1,zDp)),
 (("through_some_place":Str),(2,5,zAN)),
 (("row_through":Str),(2,2,zC7)),
 (("come_to":Str),(2,3,zEg)),
 (("closed":Str),(1,3,zFv)),
 (("_law_cell_at":Str),(2,2,zC9)),
 (("_law_state":Str),(2,3,zCO)),
 (("_law_take":Str),(2,4,zDs)),
 (("_law_ends":Str),(2,5,zDu)),
 (("_law_net":Str),(4,13,zDt)),
 (("_law_places_right":Str),(2,12,zAd)),
 (("_law_cut_right":Str),(2,6,zBn)),
 (("_law_switches_right":Str),(2,8,zAO)),
 (("law":Str),(1,4,zFt))]
noncomputable def top (i:Nat):Stmt:=PySem.Challenge.pw_contactnets_k84_whole_places_at_settings.main.body.getD i (.Pass ⟨0,0,0,0⟩)
theorem hk {f g:Nat→List D→M D} (h:f=g) (n:Nat):f n=g n:=congrFun h n
noncomputable abbrev zDc:Stmt:=top 6
noncomputable abbrev zD7:Stmt:=top 7
noncomputable abbrev zDT:Stmt:=top 8
noncomputable abbrev zDR:Stmt:=top 9
noncomputable abbrev zBX:Stmt:=top 10
noncomputable abbrev zGW:Stmt:=top 11
noncomputable abbrev zBf:Stmt:=top 12
noncomputable abbrev zK3:Stmt:=top 13
noncomputable abbrev zBZ:Stmt:=top 14
noncomputable abbrev zCr:Stmt:=top 15
noncomputable abbrev zBy:Stmt:=top 16
noncomputable abbrev zB6:Stmt:=top 17
noncomputable abbrev zF4:Stmt:=top 18
noncomputable abbrev zBg:Stmt:=top 19
noncomputable abbrev zGV:Stmt:=top 20
noncomputable abbrev zCF:Stmt:=top 22
noncomputable abbrev zD8:Stmt:=top 23
noncomputable abbrev zAX:Stmt:=top 24
noncomputable abbrev zBA:Stmt:=top 25
noncomputable abbrev zDV:Stmt:=top 26
noncomputable abbrev zD9:Stmt:=top 27
noncomputable abbrev zBi:Stmt:=top 28
noncomputable abbrev zBz:Stmt:=top 29
noncomputable abbrev zCH:Stmt:=top 30
noncomputable abbrev zBV:Stmt:=top 31
noncomputable abbrev zK1:Stmt:=top 32
noncomputable abbrev zAQ:Stmt:=top 34
noncomputable abbrev zPl:Stmt:=top 35
noncomputable abbrev zB7:Stmt:=top 37
noncomputable abbrev zK2:Stmt:=top 38
noncomputable abbrev zD5:Stmt:=top 39
noncomputable abbrev zD6:Stmt:=top 40
noncomputable abbrev zAL:Stmt:=top 41
noncomputable abbrev zBW:Stmt:=top 42
noncomputable abbrev zDU:Stmt:=top 43
noncomputable abbrev zF5:Stmt:=top 44
noncomputable abbrev zBY:Stmt:=top 46
noncomputable abbrev zCG:Stmt:=top 47
noncomputable abbrev zDa:Stmt:=top 48
noncomputable abbrev zDb:Stmt:=top 49
noncomputable abbrev zDS:Stmt:=top 50
noncomputable abbrev zAT:Stmt:=top 51
noncomputable abbrev zBh:Stmt:=top 52
noncomputable abbrev zAM:Stmt:=top 53
noncomputable abbrev zK4:Stmt:=top 54
abbrev CKp (x:Str) (N:List Str) (st:Stmt) (b:CLL→CS):Prop:=(fun cl:CLL=>cSts (arT tbl) cl 60 ⟨N,(zA2 st).names,some x⟩ (zBl st))=fun cl=>some (b cl)
theorem zLZ:fnOk ["thing"] ["thing"] (zA2 zDc)=true:=by decide +kernel
theorem zHn:zBM (zAs tbl):=hk (by kernel_rfl)
theorem zMh:CKp "is_whole" ["thing"] zDc zBR:=by kernel_rfl
theorem zLU:fnOk ["switches","told","switch"] ["switches"] (zA2 zD7)=true:=by decide +kernel
theorem zDB:zCj (zAs tbl):=hk (by kernel_rfl)
theorem zMc:CKp "settings" ["switches","told","switch"] zD7 zEx:=by kernel_rfl
theorem zOc:fnOk ["contact","setting"] ["contact","setting"] (zA2 zDT)=true:=by decide +kernel
theorem zDh:zBs (zAs tbl):=hk (by kernel_rfl)
theorem zOo:CKp "is_shut" ["contact","setting"] zDT zFu:=by kernel_rfl
theorem zOa:fnOk ["net","setting"] ["net","setting"] (zA2 zDR)=true:=by decide +kernel
theorem zIF:zG5 (zAs tbl):=hk (by kernel_rfl)
theorem zOm:CKp "shut_at" ["net","setting"] zDR zFs:=by kernel_rfl
theorem zI9:fnOk ["start","contacts","found","grown","contact"] ["start","contacts"] (zA2 zBX)=true:=by decide +kernel
theorem zBD:zAC (zAs tbl):=hk (by kernel_rfl)
theorem zIf:CKp "places_from" ["start","contacts","found","grown","contact"] zBX zCC:=by kernel_rfl
theorem zSD:fnOk ["contacts"] ["contacts"] (zA2 zGW)=true:=by decide +kernel
theorem zN9:zFw (zAs tbl):=hk (by kernel_rfl)
theorem zSK:CKp "joins" ["contacts"] zGW zJB:=by kernel_rfl
theorem zGq:fnOk ["net","setting"] ["net","setting"] (zA2 zBf)=true:=by decide +kernel
theorem zB9:zAK (zAs tbl):=hk (by kernel_rfl)
theorem zGu:CKp "shut_contacts" ["net","setting"] zBf zC6:=by kernel_rfl
theorem zV8:fnOk ["net","setting"] ["net","setting"] (zA2 zK3)=true:=by decide +kernel
theorem zQn:zJF (zAs tbl):=hk (by kernel_rfl)
theorem zVm:CKp "lets" ["net","setting"] zK3 zNw:=by kernel_rfl
theorem zIb:fnOk ["net"] ["net"] (zA2 zBZ)=true:=by decide +kernel
theorem zEE:zD2 (zAs tbl):=hk (by kernel_rfl)
theorem zIh:CKp "function_of" ["net"] zBZ zCD:=by kernel_rfl
theorem zJr:fnOk ["one","other"] ["one","other"] (zA2 zCr)=true:=by decide +kernel
theorem zJo:zDG (zAs tbl):=hk (by kernel_rfl)
theorem zJu:CKp "where_both" ["one","other"] zCr zEf:=by kernel_rfl
theorem zHs:fnOk ["one","other"] ["one","other"] (zA2 zBy)=true:=by decide +kernel
theorem zHk:zCS (zAs tbl):=hk (by kernel_rfl)
theorem zHC:CKp "where_either" ["one","other"] zBy zD1:=by kernel_rfl
theorem zFT:fnOk ["contact","some"] ["contact","some"] (zA2 zB6)=true:=by decide +kernel
theorem zFQ:zBr (zAs tbl):=hk (by kernel_rfl)
theorem zFY:CKp "turned_contact" ["contact","some"] zB6 zBa:=by kernel_rfl
theorem zQv:fnOk ["net","some"] ["net","some"] (zA2 zF4)=true:=by decide +kernel
theorem zQm:zHU (zAs tbl):=hk (by kernel_rfl)
theorem zQU:CKp "turned" ["net","some"] zF4 zGL:=by kernel_rfl
theorem zGr:fnOk ["contact","order"] ["contact","order"] (zA2 zBg)=true:=by decide +kernel
theorem zGn:zBK (zAs tbl):=hk (by kernel_rfl)
theorem zGv:CKp "named_contact" ["contact","order"] zBg zC8:=by kernel_rfl
theorem zSC:fnOk ["net","order"] ["net","order"] (zA2 zGV)=true:=by decide +kernel
theorem zSx:zJE (zAs tbl):=hk (by kernel_rfl)
theorem zSJ:CKp "named" ["net","order"] zGV zJA:=by kernel_rfl
theorem zKE:fnOk ["net","setting","contacts","told","place","piece"] ["net","setting"] (zA2 zCF)=true:=by decide +kernel
theorem zGg:zGj (zAs tbl):=hk (by kernel_rfl)
theorem zKQ:CKp "pieces_at" ["net","setting","contacts","told","place","piece"] zCF zCN:=by kernel_rfl
theorem zLV:fnOk ["net","setting"] ["net","setting"] (zA2 zD8)=true:=by decide +kernel
theorem zHl:zHW (zAs tbl):=hk (by kernel_rfl)
theorem zMd:CKp "rings_at" ["net","setting"] zD8 zDq:=by kernel_rfl
theorem zFi:fnOk ["net","thing"] ["net","thing"] (zA2 zAX)=true:=by decide +kernel
theorem zFg:zCX (zAs tbl):=hk (by kernel_rfl)
theorem zFm:CKp "refuse_no_place" ["net","thing"] zAX zB1:=by kernel_rfl
theorem zHu:fnOk ["net","one","other","setting"] ["net","one","other","setting"] (zA2 zBA)=true:=by decide +kernel
theorem zHo:zEm (zAs tbl):=hk (by kernel_rfl)
theorem zHE:CKp "in_one_piece" ["net","one","other","setting"] zBA zCp:=by kernel_rfl
theorem zOe:fnOk ["net","one","other"] ["net","one","other"] (zA2 zDV)=true:=by decide +kernel
theorem zO6:zIT (zAs tbl):=hk (by kernel_rfl)
theorem zOq:CKp "between" ["net","one","other"] zDV zEh:=by kernel_rfl
theorem zLW:fnOk ["places","told","one"] ["places"] (zA2 zD9)=true:=by decide +kernel
theorem zLP:zF1 (zAs tbl):=hk (by kernel_rfl)
theorem zMe:CKp "pairs_of" ["places","told","one"] zD9 zDr:=by kernel_rfl
theorem zGt:fnOk ["net"] ["net"] (zA2 zBi)=true:=by decide +kernel
theorem zGp:zDO (zAs tbl):=hk (by kernel_rfl)
theorem zGx:CKp "always_joined" ["net"] zBi zBo:=by kernel_rfl
theorem zHt:fnOk ["net"] ["net"] (zA2 zBz)=true:=by decide +kernel
theorem zHm:zEk (zAs tbl):=hk (by kernel_rfl)
theorem zHD:CKp "never_joined" ["net"] zBz zBG:=by kernel_rfl
theorem zKG:fnOk ["setting","switch"] ["setting","switch"] (zA2 zCH)=true:=by decide +kernel
theorem zKA:zEn (zAs tbl):=hk (by kernel_rfl)
theorem zKS:CKp "exchanged" ["setting","switch"] zCH zCP:=by kernel_rfl
theorem zI7:fnOk ["net","bits","told","switch"] ["net"] (zA2 zBV)=true:=by decide +kernel
theorem zI3:zEG (zAs tbl):=hk (by kernel_rfl)
theorem zId:CKp "turn_counts" ["net","bits","told","switch"] zBV zC5:=by kernel_rfl
theorem zV6:fnOk ["net"] ["net"] (zA2 zK1)=true:=by decide +kernel
theorem zV1:zRf (zAs tbl):=hk (by kernel_rfl)
theorem zVk:CKp "used" ["net"] zK1 zLb:=by kernel_rfl
theorem zEA:fnOk ["net","number"] ["net","number"] (zA2 zAQ)=true:=by decide +kernel
theorem zEz:zAW (zAs tbl):=hk (by kernel_rfl)
theorem zEB:CKp "refuse_no_contact" ["net","number"] zAQ zB5:=by kernel_rfl
theorem zY0:fnOk ["net","number"] ["net","number"] (zA2 zPl)=true:=by decide +kernel
theorem zXU:zRg (zAs tbl):=hk (by kernel_rfl)
theorem zYi:CKp "cut" ["net","number"] zPl zSU:=by kernel_rfl
theorem zFU:fnOk ["rows","one","other"] ["rows"] (zA2 zB7)=true:=by decide +kernel
theorem zFR:zCk (zAs tbl):=hk (by kernel_rfl)
theorem zFZ:CKp "same_both_ways" ["rows","one","other"] zB7 zAv:=by kernel_rfl
theorem zV7:fnOk ["net","one","other","ends","contacts"] ["net","one","other"] (zA2 zK2)=true:=by decide +kernel
theorem zV2:zHV (zAs tbl):=hk (by kernel_rfl)
theorem zVl:CKp "tied" ["net","one","other","ends","contacts"] zK2 zHO:=by kernel_rfl
theorem zLS:fnOk ["net","one"] ["net","one"] (zA2 zD5)=true:=by decide +kernel
theorem zLN:zDH (zAs tbl):=hk (by kernel_rfl)
theorem zMa:CKp "tied_row" ["net","one"] zD5 zDo:=by kernel_rfl
theorem zLT:fnOk ["net"] ["net"] (zA2 zD6)=true:=by decide +kernel
theorem zLO:zF0 (zAs tbl):=hk (by kernel_rfl)
theorem zMb:CKp "table_of" ["net"] zD6 zDp:=by kernel_rfl
theorem zE6:fnOk ["one_row","other_row","told","one","other"] ["one_row","other_row"] (zA2 zAL)=true:=by decide +kernel
theorem zE2:zCu (zAs tbl):=hk (by kernel_rfl)
theorem zEb:CKp "through_some_place" ["one_row","other_row","told","one","other"] zAL zAN:=by kernel_rfl
theorem zI8:fnOk ["one_row","other"] ["one_row","other"] (zA2 zBW)=true:=by decide +kernel
theorem zI4:zEH (zAs tbl):=hk (by kernel_rfl)
theorem zIe:CKp "row_through" ["one_row","other"] zBW zC7:=by kernel_rfl
theorem zOd:fnOk ["one","other","told"] ["one","other"] (zA2 zDU)=true:=by decide +kernel
theorem zO5:zIS (zAs tbl):=hk (by kernel_rfl)
theorem zOp:CKp "come_to" ["one","other","told"] zDU zEg:=by kernel_rfl
theorem zQw:fnOk ["table","told","further"] ["table"] (zA2 zF5)=true:=by decide +kernel
theorem zQo:zLg (zAs tbl):=hk (by kernel_rfl)
theorem zQV:CKp "closed" ["table","told","further"] zF5 zFv:=by kernel_rfl
theorem zIa:fnOk ["_law_script","_law_k"] ["_law_script","_law_k"] (zA2 zBY)=true:=by decide +kernel
theorem zI5:zCq (zAs tbl):=hk (by kernel_rfl)
theorem zIg:CKp "_law_cell_at" ["_law_script","_law_k"] zBY zC9:=by kernel_rfl
theorem zKF:fnOk ["_law_script","_law_k","_law_cell"] ["_law_script","_law_k"] (zA2 zCG)=true:=by decide +kernel
theorem zKz:zEl (zAs tbl):=hk (by kernel_rfl)
theorem zKR:CKp "_law_state" ["_law_script","_law_k","_law_cell"] zCG zCO:=by kernel_rfl
theorem zLX:fnOk ["_law_state_here","_law_many","_law_found","_law_mixed"] ["_law_state_here","_law_many"] (zA2 zDa)=true:=by decide +kernel
theorem zES:zBp (zAs tbl):=hk (by kernel_rfl)
theorem zMf:CKp "_law_take" ["_law_state_here","_law_many","_law_found","_law_mixed"] zDa zDs:=by kernel_rfl
theorem zLY:fnOk ["_law_state_here","_law_places","_law_row","_law_one","_law_other"] ["_law_state_here","_law_places"] (zA2 zDb)=true:=by decide +kernel
theorem zLQ:zDI (zAs tbl):=hk (by kernel_rfl)
theorem zMg:CKp "_law_ends" ["_law_state_here","_law_places","_law_row","_law_one","_law_other"] zDb zDu:=by kernel_rfl
theorem zOb:fnOk ["_law_state_here","_law_most_switches","_law_most_places","_law_most_contacts","_law_switches","_law_places","_law_rows","_law_row","_law_one","_law_other","_law_turn","_law_mixed","_law_contact"] ["_law_state_here","_law_most_switches","_law_most_places","_law_most_contacts"] (zA2 zDS)=true:=by decide +kernel
theorem zO4:zG6 (zAs tbl):=hk (by kernel_rfl)
theorem zOn:CKp "_law_net" ["_law_state_here","_law_most_switches","_law_most_places","_law_most_contacts","_law_switches","_law_places","_law_rows","_law_row","_law_one","_law_other","_law_turn","_law_mixed","_law_contact"] zDS zDt:=by kernel_rfl
theorem zEV:fnOk ["_law_state_here","_law_net_here","_law_table","_law_one","_law_other","_law_bits","_law_bit","_law_setting","_law_pieces","_law_there","_law_piece","_law_pair"] ["_law_state_here","_law_net_here"] (zA2 zAT)=true:=by decide +kernel
theorem zET:zCb (zAs tbl):=hk (by kernel_rfl)
theorem zEX:CKp "_law_places_right" ["_law_state_here","_law_net_here","_law_table","_law_one","_law_other","_law_bits","_law_bit","_law_setting","_law_pieces","_law_there","_law_piece","_law_pair"] zAT zAd:=by kernel_rfl
theorem zGs:fnOk ["_law_net_here","_law_number","_law_less","_law_setting","_law_more","_law_shut"] ["_law_net_here","_law_number"] (zA2 zBh)=true:=by decide +kernel
theorem zGo:zDN (zAs tbl):=hk (by kernel_rfl)
theorem zGw:CKp "_law_cut_right" ["_law_net_here","_law_number","_law_less","_law_setting","_law_more","_law_shut"] zBh zBn:=by kernel_rfl
theorem zE7:fnOk ["_law_state_here","_law_net_here","_law_counts","_law_there","_law_order","_law_k","_law_later","_law_some"] ["_law_state_here","_law_net_here"] (zA2 zAM)=true:=by decide +kernel
theorem zE3:zCv (zAs tbl):=hk (by kernel_rfl)
theorem zEc:CKp "_law_switches_right" ["_law_state_here","_law_net_here","_law_counts","_law_there","_law_order","_law_k","_law_later","_law_some"] zAM zAO:=by kernel_rfl
theorem zTf:fnOk ["_law_script","_law_k","_law_state_here","_law_net_here"] ["_law_script"] (zA2 zK4)=true:=by decide +kernel
theorem zXT:zIR (zAs tbl):=hk (by kernel_rfl)
theorem zTq:CKp "law" ["_law_script","_law_k","_law_state_here","_law_net_here"] zK4 zFt:=by kernel_rfl
theorem zSg (ns:List Int) (h:ns.length≤63):∃ S',zAs tbl 100 "law" [.rol (ns.map D.int)] []=.ok (.bl true) S':=zax zXT ⟨⟨zKz,zI5,zES,zLQ,zO4⟩,⟨⟨zDB,zDh,zBD,zN9,zB9,zQn,zEE⟩,⟨zE2,zI4,zO5,zQo,zJo,zHk,zFR⟩,zLO,zLN,zV2,⟨⟨zHn,zDB,zDh,zBD,zB9,zFg,zHo,zO6⟩,zLP,zGp,zHm⟩,⟨zDh,zIF,zBD,zB9,zGg,zHl⟩,zES,zET⟩,⟨⟨⟨zDB,zDh,zBD,zN9,zB9,zQn,zEE⟩,zKA,zI3,zV1⟩,zES,zSx,zGn,zQm,zFQ,zE3⟩,⟨⟨zDh,zIF,zBD,zB9,zGg,zHl⟩,zXU,zEz,zHn,zDB,zGo⟩⟩ 91 ns
def DF (K:W.Frag) (n:Str) (st:Stmt):Prop:=∃ (f:Addr) (od an:Option Addr) (sl:Array (Option Value)) (oc kV dc pm cd ct:Value),W.nsIn K mainGlobals n=some (some (.ref f))∧K.lookup f=some ⟨oc,od,.func (W.fnOf n n (zDE st) (zBl st) (zA2 st) .none kV dc pm an cd ct),sl⟩∧W.codeIn K cd n=true∧W.keepIn K (.ref f)=true
theorem mkDF {K:W.Frag}{n:Str}{st:Stmt}{f:Addr}{od an:Option Addr}{sl:Array (Option Value)}{oc kV dc pm cd ct:Value} (a:W.nsIn K mainGlobals n=some (some (.ref f))) (l:K.lookup f=some ⟨oc,od,.func (W.fnOf n n (zDE st) (zBl st) (zA2 st) .none kV dc pm an cd ct),sl⟩) (c:W.codeIn K cd n=true) (k:W.keepIn K (.ref f)=true):DF K n st:=⟨f,od,an,sl,oc,kV,dc,pm,cd,ct,a,l,c,k⟩
theorem DF.in {K:W.Frag}{h:Heap}{mg:Str→Option Value}{n:Str}{st:Stmt} (d:DF K n st) (X:K.In h) (G:h.Ns mainGlobals mg):∃ (f:Addr) (kV dc pm:Value) (an:Option Addr) (cd ct:Value),mg n=some (.ref f)∧Fun K n n st f (W.fnOf n n (zDE st) (zBl st) (zA2 st) .none kV dc pm an cd ct):=by
 obtain ⟨f,od,an,sl,oc,kV,dc,pm,cd,ct,a,l,c,k⟩:=d
 exact ⟨f,kV,dc,pm,an,cd,ct,W.mg_of X G a,zXY l c k⟩
noncomputable def ZN (K:W.Frag):List Str→Prop
 | []=>True
 | x::r=>W.nsIn K mainGlobals x=some none∧ZN K r
theorem ZN.none {K:W.Frag}{h:Heap}{mg:Str→Option Value} (X:K.In h) (G:h.Ns mainGlobals mg):∀ {l:List Str},ZN K l→zJI mg l
 | [],_=>True.intro
 | _::_,z=>⟨W.mg_none_of X G z.1,z.2.none X G⟩
def BP (st:Stmt) (n:Str) (ps:List Str) (kV doc pm:Value) (an:Option Addr) (cdv ct:Value) (us:List Value):Prop:=bindArgs (W.fnOf n n (zDE st) (zBl st) (zA2 st) .none kV doc pm an cdv ct) ⟨us,[]⟩=pure (ps.zip us)
def BF (st:Stmt) (n:Str) (ps:List Str):Prop:=∀ (kV doc pm:Value) (an:Option Addr) (cdv ct:Value) (us:List Value),us.length=ps.length→BP st n ps kV doc pm an cdv ct us
theorem dIn {K:W.Frag}{h:Heap}{mg:Str→Option Value}{ar:Str→Option Nat}{x:Str}{st:Stmt}{N ps:List Str}{fuel np nN:Nat}{b:CLL→CS} (d:DF K x st) (X:K.In h) (G:h.Ns mainGlobals mg) (hb:BF st x ps) (hs:fnOk N ps (zA2 st)=true)
  (hc:(fun cl:CLL=>cSts ar cl fuel ⟨N,(zA2 st).names,some x⟩ (zBl st))=fun cl=>some (b cl)) (h1:ps.length=np:=by rfl) (h2:N.length=nN:=by rfl):zMw K mg ar x (np,nN,b):=by
 obtain ⟨_,_,_,_,_,_,_,m,F⟩:=d.in X G
 exact zY8 F m (F.binds (ps:=ps) hb) hs hc h1 h2
theorem usC {n:Nat}:∀ us:List Value,us.length=n+1→∃ a r,us=a::r∧r.length=n
 | a::r,h=>⟨a,r,rfl,Nat.succ.inj h⟩
theorem us0 {P:List Value→Prop} (h:P []) (us:List Value) (hl:us.length=0):P us:=by
 rw [List.eq_nil_of_length_eq_zero hl]; exact h
theorem us1 {P:List Value→Prop} (h:∀ a0:Value,P [a0]) (us:List Value) (hl:us.length=1):P us:=by
 obtain ⟨a,r,rfl,hq⟩:=usC us hl
 exact us0 (P:=fun r=>P (a::r)) (h a) r hq
theorem us2 {P:List Value→Prop} (h:∀ a0 a1:Value,P [a0,a1]) (us:List Value) (hl:us.length=2):P us:=by
 obtain ⟨a,r,rfl,hq⟩:=usC us hl
 exact us1 (P:=fun r=>P (a::r)) (h a) r hq
theorem us3 {P:List Value→Prop} (h:∀ a0 a1 a2:Value,P [a0,a1,a2]) (us:List Value) (hl:us.length=3):P us:=by
 obtain ⟨a,r,rfl,hq⟩:=usC us hl
 exact us2 (P:=fun r=>P (a::r)) (h a) r hq
theorem us4 {P:List Value→Prop} (h:∀ a0 a1 a2 a3:Value,P [a0,a1,a2,a3]) (us:List Value) (hl:us.length=4):P us:=by
 obtain ⟨a,r,rfl,hq⟩:=usC us hl
 exact us3 (P:=fun r=>P (a::r)) (h a) r hq
theorem zMu:BF zDc "is_whole" ["thing"]:=fun kV doc pm an cdv ct=>us1 (P:=BP zDc "is_whole" ["thing"] kV doc pm an cdv ct) (fun _=>rfl)
theorem zMp:BF zD7 "settings" ["switches"]:=fun kV doc pm an cdv ct=>us1 (P:=BP zD7 "settings" ["switches"] kV doc pm an cdv ct) (fun _=>rfl)
theorem zOw:BF zDT "is_shut" ["contact","setting"]:=fun kV doc pm an cdv ct=>us2 (P:=BP zDT "is_shut" ["contact","setting"] kV doc pm an cdv ct) (fun _ _=>rfl)
theorem zOu:BF zDR "shut_at" ["net","setting"]:=fun kV doc pm an cdv ct=>us2 (P:=BP zDR "shut_at" ["net","setting"] kV doc pm an cdv ct) (fun _ _=>rfl)
theorem zIk:BF zBX "places_from" ["start","contacts"]:=fun kV doc pm an cdv ct=>us2 (P:=BP zBX "places_from" ["start","contacts"] kV doc pm an cdv ct) (fun _ _=>rfl)
theorem zSR:BF zGW "joins" ["contacts"]:=fun kV doc pm an cdv ct=>us1 (P:=BP zGW "joins" ["contacts"] kV doc pm an cdv ct) (fun _=>rfl)
theorem zGy:BF zBf "shut_contacts" ["net","setting"]:=fun kV doc pm an cdv ct=>us2 (P:=BP zBf "shut_contacts" ["net","setting"] kV doc pm an cdv ct) (fun _ _=>rfl)
theorem zVA:BF zK3 "lets" ["net","setting"]:=fun kV doc pm an cdv ct=>us2 (P:=BP zK3 "lets" ["net","setting"] kV doc pm an cdv ct) (fun _ _=>rfl)
theorem zIm:BF zBZ "function_of" ["net"]:=fun kV doc pm an cdv ct=>us1 (P:=BP zBZ "function_of" ["net"] kV doc pm an cdv ct) (fun _=>rfl)
theorem zJy:BF zCr "where_both" ["one","other"]:=fun kV doc pm an cdv ct=>us2 (P:=BP zCr "where_both" ["one","other"] kV doc pm an cdv ct) (fun _ _=>rfl)
theorem zHL:BF zBy "where_either" ["one","other"]:=fun kV doc pm an cdv ct=>us2 (P:=BP zBy "where_either" ["one","other"] kV doc pm an cdv ct) (fun _ _=>rfl)
theorem zG2:BF zB6 "turned_contact" ["contact","some"]:=fun kV doc pm an cdv ct=>us2 (P:=BP zB6 "turned_contact" ["contact","some"] kV doc pm an cdv ct) (fun _ _=>rfl)
theorem zR8:BF zF4 "turned" ["net","some"]:=fun kV doc pm an cdv ct=>us2 (P:=BP zF4 "turned" ["net","some"] kV doc pm an cdv ct) (fun _ _=>rfl)
theorem zGz:BF zBg "named_contact" ["contact","order"]:=fun kV doc pm an cdv ct=>us2 (P:=BP zBg "named_contact" ["contact","order"] kV doc pm an cdv ct) (fun _ _=>rfl)
theorem zSQ:BF zGV "named" ["net","order"]:=fun kV doc pm an cdv ct=>us2 (P:=BP zGV "named" ["net","order"] kV doc pm an cdv ct) (fun _ _=>rfl)
theorem zL8:BF zCF "pieces_at" ["net","setting"]:=fun kV doc pm an cdv ct=>us2 (P:=BP zCF "pieces_at" ["net","setting"] kV doc pm an cdv ct) (fun _ _=>rfl)
theorem zMq:BF zD8 "rings_at" ["net","setting"]:=fun kV doc pm an cdv ct=>us2 (P:=BP zD8 "rings_at" ["net","setting"] kV doc pm an cdv ct) (fun _ _=>rfl)
theorem zFr:BF zAX "refuse_no_place" ["net","thing"]:=fun kV doc pm an cdv ct=>us2 (P:=BP zAX "refuse_no_place" ["net","thing"] kV doc pm an cdv ct) (fun _ _=>rfl)
theorem zHN:BF zBA "in_one_piece" ["net","one","other","setting"]:=fun kV doc pm an cdv ct=>us4 (P:=BP zBA "in_one_piece" ["net","one","other","setting"] kV doc pm an cdv ct) (fun _ _ _ _=>rfl)
theorem zOy:BF zDV "between" ["net","one","other"]:=fun kV doc pm an cdv ct=>us3 (P:=BP zDV "between" ["net","one","other"] kV doc pm an cdv ct) (fun _ _ _=>rfl)
theorem zMr:BF zD9 "pairs_of" ["places"]:=fun kV doc pm an cdv ct=>us1 (P:=BP zD9 "pairs_of" ["places"] kV doc pm an cdv ct) (fun _=>rfl)
theorem zGB:BF zBi "always_joined" ["net"]:=fun kV doc pm an cdv ct=>us1 (P:=BP zBi "always_joined" ["net"] kV doc pm an cdv ct) (fun _=>rfl)
theorem zHM:BF zBz "never_joined" ["net"]:=fun kV doc pm an cdv ct=>us1 (P:=BP zBz "never_joined" ["net"] kV doc pm an cdv ct) (fun _=>rfl)
theorem zLa:BF zCH "exchanged" ["setting","switch"]:=fun kV doc pm an cdv ct=>us2 (P:=BP zCH "exchanged" ["setting","switch"] kV doc pm an cdv ct) (fun _ _=>rfl)
theorem zIi:BF zBV "turn_counts" ["net"]:=fun kV doc pm an cdv ct=>us1 (P:=BP zBV "turn_counts" ["net"] kV doc pm an cdv ct) (fun _=>rfl)
theorem zVy:BF zK1 "used" ["net"]:=fun kV doc pm an cdv ct=>us1 (P:=BP zK1 "used" ["net"] kV doc pm an cdv ct) (fun _=>rfl)
theorem zEC:BF zAQ "refuse_no_contact" ["net","number"]:=fun kV doc pm an cdv ct=>us2 (P:=BP zAQ "refuse_no_contact" ["net","number"] kV doc pm an cdv ct) (fun _ _=>rfl)
theorem zYv:BF zPl "cut" ["net","number"]:=fun kV doc pm an cdv ct=>us2 (P:=BP zPl "cut" ["net","number"] kV doc pm an cdv ct) (fun _ _=>rfl)
theorem zG3:BF zB7 "same_both_ways" ["rows"]:=fun kV doc pm an cdv ct=>us1 (P:=BP zB7 "same_both_ways" ["rows"] kV doc pm an cdv ct) (fun _=>rfl)
theorem zVz:BF zK2 "tied" ["net","one","other"]:=fun kV doc pm an cdv ct=>us3 (P:=BP zK2 "tied" ["net","one","other"] kV doc pm an cdv ct) (fun _ _ _=>rfl)
theorem zMn:BF zD5 "tied_row" ["net","one"]:=fun kV doc pm an cdv ct=>us2 (P:=BP zD5 "tied_row" ["net","one"] kV doc pm an cdv ct) (fun _ _=>rfl)
theorem zMo:BF zD6 "table_of" ["net"]:=fun kV doc pm an cdv ct=>us1 (P:=BP zD6 "table_of" ["net"] kV doc pm an cdv ct) (fun _=>rfl)
theorem zEd:BF zAL "through_some_place" ["one_row","other_row"]:=fun kV doc pm an cdv ct=>us2 (P:=BP zAL "through_some_place" ["one_row","other_row"] kV doc pm an cdv ct) (fun _ _=>rfl)
theorem zIj:BF zBW "row_through" ["one_row","other"]:=fun kV doc pm an cdv ct=>us2 (P:=BP zBW "row_through" ["one_row","other"] kV doc pm an cdv ct) (fun _ _=>rfl)
theorem zOx:BF zDU "come_to" ["one","other"]:=fun kV doc pm an cdv ct=>us2 (P:=BP zDU "come_to" ["one","other"] kV doc pm an cdv ct) (fun _ _=>rfl)
theorem zR9:BF zF5 "closed" ["table"]:=fun kV doc pm an cdv ct=>us1 (P:=BP zF5 "closed" ["table"] kV doc pm an cdv ct) (fun _=>rfl)
theorem zIl:BF zBY "_law_cell_at" ["_law_script","_law_k"]:=fun kV doc pm an cdv ct=>us2 (P:=BP zBY "_law_cell_at" ["_law_script","_law_k"] kV doc pm an cdv ct) (fun _ _=>rfl)
theorem zL9:BF zCG "_law_state" ["_law_script","_law_k"]:=fun kV doc pm an cdv ct=>us2 (P:=BP zCG "_law_state" ["_law_script","_law_k"] kV doc pm an cdv ct) (fun _ _=>rfl)
theorem zMs:BF zDa "_law_take" ["_law_state_here","_law_many"]:=fun kV doc pm an cdv ct=>us2 (P:=BP zDa "_law_take" ["_law_state_here","_law_many"] kV doc pm an cdv ct) (fun _ _=>rfl)
theorem zMt:BF zDb "_law_ends" ["_law_state_here","_law_places"]:=fun kV doc pm an cdv ct=>us2 (P:=BP zDb "_law_ends" ["_law_state_here","_law_places"] kV doc pm an cdv ct) (fun _ _=>rfl)
theorem zOv:BF zDS "_law_net" ["_law_state_here","_law_most_switches","_law_most_places","_law_most_contacts"]:=fun kV doc pm an cdv ct=>us4 (P:=BP zDS "_law_net" ["_law_state_here","_law_most_switches","_law_most_places","_law_most_contacts"] kV doc pm an cdv ct) (fun _ _ _ _=>rfl)
theorem zEZ:BF zAT "_law_places_right" ["_law_state_here","_law_net_here"]:=fun kV doc pm an cdv ct=>us2 (P:=BP zAT "_law_places_right" ["_law_state_here","_law_net_here"] kV doc pm an cdv ct) (fun _ _=>rfl)
theorem zGA:BF zBh "_law_cut_right" ["_law_net_here","_law_number"]:=fun kV doc pm an cdv ct=>us2 (P:=BP zBh "_law_cut_right" ["_law_net_here","_law_number"] kV doc pm an cdv ct) (fun _ _=>rfl)
theorem zEe:BF zAM "_law_switches_right" ["_law_state_here","_law_net_here"]:=fun kV doc pm an cdv ct=>us2 (P:=BP zAM "_law_switches_right" ["_law_state_here","_law_net_here"] kV doc pm an cdv ct) (fun _ _=>rfl)
theorem zYu:BF zK4 "law" ["_law_script"]:=fun kV doc pm an cdv ct=>us1 (P:=BP zK4 "law" ["_law_script"] kV doc pm an cdv ct) (fun _=>rfl)
theorem all_mk {l:W.OpenLaw}{w:World}{K:W.Frag}{h:Heap}{mg:Str→Option Value}{fa:Addr} (X:K.In h) (G:h.Ns mainGlobals mg) (hfa:mg "law"=some (.ref fa))
  (d1:DF K "is_whole" zDc) (d2:DF K "settings" zD7) (d3:DF K "is_shut" zDT) (d4:DF K "shut_at" zDR) (d5:DF K "places_from" zBX) (d6:DF K "joins" zGW) (d7:DF K "shut_contacts" zBf) (d8:DF K "lets" zK3) (d9:DF K "function_of" zBZ) (d10:DF K "where_both" zCr) (d11:DF K "where_either" zBy) (d12:DF K "turned_contact" zB6) (d13:DF K "turned" zF4) (d14:DF K "named_contact" zBg) (d15:DF K "named" zGV) (d16:DF K "pieces_at" zCF) (d17:DF K "rings_at" zD8) (d18:DF K "refuse_no_place" zAX) (d19:DF K "in_one_piece" zBA) (d20:DF K "between" zDV) (d21:DF K "pairs_of" zD9) (d22:DF K "always_joined" zBi) (d23:DF K "never_joined" zBz) (d24:DF K "exchanged" zCH) (d25:DF K "turn_counts" zBV) (d26:DF K "used" zK1) (d27:DF K "refuse_no_contact" zAQ) (d28:DF K "cut" zPl) (d29:DF K "same_both_ways" zB7) (d30:DF K "tied" zK2) (d31:DF K "tied_row" zD5) (d32:DF K "table_of" zD6) (d33:DF K "through_some_place" zAL) (d34:DF K "row_through" zBW) (d35:DF K "come_to" zDU) (d36:DF K "closed" zF5) (d37:DF K "_law_cell_at" zBY) (d38:DF K "_law_state" zCG) (d39:DF K "_law_take" zDa) (d40:DF K "_law_ends" zDb) (d41:DF K "_law_net" zDS) (d42:DF K "_law_places_right" zAT) (d43:DF K "_law_cut_right" zBh) (d44:DF K "_law_switches_right" zAM) (d45:DF K "law" zK4) (z:ZN K bltL) :
  ∃ fd:FuncData,(∀ (s:Shared) (v:Value),BindsTo s fd ⟨[v],[]⟩ [("_law_script",v)])∧∀ base:Heap,K.In base→base.Ns mainGlobals mg→FnOk l.prog w K mg base CX0 100 fa fd ["_law_script"] (spL K):=by
 obtain ⟨_,kV,dc,pm,an,cd,ct,m,F⟩:=d45.in X G
 have e:=hfa.symm.trans m
 cases e
 have A:zOC K mg (arT tbl) tbl:=And.intro (dIn d1 X G zMu zLZ zMh) (And.intro (dIn d2 X G zMp zLU zMc) (And.intro (dIn d3 X G zOw zOc zOo) (And.intro (dIn d4 X G zOu zOa zOm) (And.intro (dIn d5 X G zIk zI9 zIf) (And.intro (dIn d6 X G zSR zSD zSK) (And.intro (dIn d7 X G zGy zGq zGu) (And.intro (dIn d8 X G zVA zV8 zVm) (And.intro (dIn d9 X G zIm zIb zIh) (And.intro (dIn d10 X G zJy zJr zJu) (And.intro (dIn d11 X G zHL zHs zHC) (And.intro (dIn d12 X G zG2 zFT zFY) (And.intro (dIn d13 X G zR8 zQv zQU) (And.intro (dIn d14 X G zGz zGr zGv) (And.intro (dIn d15 X G zSQ zSC zSJ) (And.intro (dIn d16 X G zL8 zKE zKQ) (And.intro (dIn d17 X G zMq zLV zMd) (And.intro (dIn d18 X G zFr zFi zFm) (And.intro (dIn d19 X G zHN zHu zHE) (And.intro (dIn d20 X G zOy zOe zOq) (And.intro (dIn d21 X G zMr zLW zMe) (And.intro (dIn d22 X G zGB zGt zGx) (And.intro (dIn d23 X G zHM zHt zHD) (And.intro (dIn d24 X G zLa zKG zKS) (And.intro (dIn d25 X G zIi zI7 zId) (And.intro (dIn d26 X G zVy zV6 zVk) (And.intro (dIn d27 X G zEC zEA zEB) (And.intro (dIn d28 X G zYv zY0 zYi) (And.intro (dIn d29 X G zG3 zFU zFZ) (And.intro (dIn d30 X G zVz zV7 zVl) (And.intro (dIn d31 X G zMn zLS zMa) (And.intro (dIn d32 X G zMo zLT zMb) (And.intro (dIn d33 X G zEd zE6 zEb) (And.intro (dIn d34 X G zIj zI8 zIe) (And.intro (dIn d35 X G zOx zOd zOp) (And.intro (dIn d36 X G zR9 zQw zQV) (And.intro (dIn d37 X G zIl zIa zIg) (And.intro (dIn d38 X G zL9 zKF zKR) (And.intro (dIn d39 X G zMs zLX zMf) (And.intro (dIn d40 X G zMt zLY zMg) (And.intro (dIn d41 X G zOv zOb zOn) (And.intro (dIn d42 X G zEZ zEV zEX) (And.intro (dIn d43 X G zGA zGs zGw) (And.intro (dIn d44 X G zEe zE7 zEc) (And.intro (dIn d45 X G zYu zTf zTq) (True.intro)))))))))))))))))))))))))))))))))))))))))))))
 refine ⟨W.fnOf "law" "law" (zDE zK4) (zBl zK4) (zA2 zK4) .none kV dc pm an cd ct,fun s v=>.of_eq rfl,fun base _ _=>?_⟩
 exact zXE (L:=99) (fun x p e=>A.look x p e) (fun y hy _=>(z.none X G).mem y hy) (by kernel_rfl) F zTf rfl (fun cl=>congrFun zTq cl) (fun ns h=>zSg ns h)
end My
open PySem PySem.W PyProof.Rows
theorem PySem.W.Fast.tw11532086167430331663:True:=trivial
theorem PySem.W.Fast.tw13082489342236137446:True:=trivial
theorem PySem.W.Fast.tw3548936786218175714:True:=trivial
theorem PySem.W.Fast.tw855273305462867712:True:=trivial
theorem PySem.W.Fast.tw9076323194454027371:True:=trivial
theorem PySem.W.Fast.tw17037065518761165755:True:=trivial
theorem PySem.W.Fast.tw17091966043999880575:True:=trivial
theorem PySem.W.Fast.tw9488963817730848718:True:=trivial
theorem PySem.W.Fast.tw4791647718649421118:True:=trivial
theorem PySem.W.Fast.tw10253410821062702683:True:=trivial
theorem PySem.W.Fast.tw15109968073126851857:True:=trivial
theorem PySem.W.Fast.tw11667959320419307986:True:=trivial
theorem PySem.W.Fast.tw18265045509403765447:True:=trivial
theorem PySem.W.Fast.tw9078047206324678216:True:=trivial
theorem PySem.W.Fast.tw12009321238944290279:True:=trivial
theorem PySem.W.Fast.tw14578818383261492463:True:=trivial
theorem PySem.W.Fast.tw12359750672387460793:True:=trivial
theorem PySem.W.Fast.tw9634536788207199735:True:=trivial
theorem PySem.W.Fast.tw12817748218816236541:True:=trivial
theorem PySem.W.Fast.tw6651369157990779250:True:=trivial
theorem PySem.W.Fast.tw5484756153823565100:True:=trivial
theorem PySem.W.Fast.tw7678109880384894735:True:=trivial
theorem PySem.W.Fast.tw15584578241344025262:True:=trivial
theorem PySem.W.Fast.tw7309501981416936813:True:=trivial
theorem PySem.W.Fast.tw196438943180732940:True:=trivial
theorem PySem.W.Fast.tw2020002132602954139:True:=trivial
theorem PySem.W.Fast.tw2827104012979733600:True:=trivial
theorem PySem.W.Fast.tw14890805506167895272:True:=trivial
theorem PySem.W.Fast.tw11558697223743452148:True:=trivial
theorem PySem.W.Fast.tw9905893512439450351:True:=trivial
theorem PySem.W.Fast.tw14368984143798354739:True:=trivial
theorem PySem.W.Fast.tw1509668543192760576:True:=trivial
theorem PySem.W.Fast.tw5895821738142532265:True:=trivial
theorem PySem.W.Fast.tw1855578036845664805:True:=trivial
theorem PySem.W.Fast.tw4063659786244200152:True:=trivial
theorem PySem.W.Fast.tw13263861024864052066:True:=trivial
theorem PySem.W.Fast.tw12567686143598362219:True:=trivial
theorem PySem.W.Fast.tw8843208023378567642:True:=trivial
set_option maxRecDepth 100000 in
set_option maxHeartbeats 0 in
theorem PySem.Challenge.cw_contactnets_k84_whole_places_at_settings_holds : PySem.Challenge.rw_contactnets_k84_whole_places_at_settings.Holds := by
 w_on; o_law; k_head; (case hw=>w_witness2)
 k_fill
 refine L2.walk_ev (L:=100) (l:=PySem.Challenge.rw_contactnets_k84_whole_places_at_settings) rfl rfl ⟨rfl,by decide,by decide,rfl⟩ (fun w h Y=>PySem.W.kIn_of Y) ?F
 case F =>
  intro w mg fa h KX G hmg
  refine' My.all_mk KX G hmg (My.mkDF ?a1 ?l1 ?c1 ?k1) (My.mkDF ?a2 ?l2 ?c2 ?k2) (My.mkDF ?a3 ?l3 ?c3 ?k3) (My.mkDF ?a4 ?l4 ?c4 ?k4) (My.mkDF ?a5 ?l5 ?c5 ?k5) (My.mkDF ?a6 ?l6 ?c6 ?k6) (My.mkDF ?a7 ?l7 ?c7 ?k7) (My.mkDF ?a8 ?l8 ?c8 ?k8) (My.mkDF ?a9 ?l9 ?c9 ?k9) (My.mkDF ?a10 ?l10 ?c10 ?k10) (My.mkDF ?a11 ?l11 ?c11 ?k11) (My.mkDF ?a12 ?l12 ?c12 ?k12) (My.mkDF ?a13 ?l13 ?c13 ?k13) (My.mkDF ?a14 ?l14 ?c14 ?k14) (My.mkDF ?a15 ?l15 ?c15 ?k15) (My.mkDF ?a16 ?l16 ?c16 ?k16) (My.mkDF ?a17 ?l17 ?c17 ?k17) (My.mkDF ?a18 ?l18 ?c18 ?k18) (My.mkDF ?a19 ?l19 ?c19 ?k19) (My.mkDF ?a20 ?l20 ?c20 ?k20) (My.mkDF ?a21 ?l21 ?c21 ?k21) (My.mkDF ?a22 ?l22 ?c22 ?k22) (My.mkDF ?a23 ?l23 ?c23 ?k23) (My.mkDF ?a24 ?l24 ?c24 ?k24) (My.mkDF ?a25 ?l25 ?c25 ?k25) (My.mkDF ?a26 ?l26 ?c26 ?k26) (My.mkDF ?a27 ?l27 ?c27 ?k27) (My.mkDF ?a28 ?l28 ?c28 ?k28) (My.mkDF ?a29 ?l29 ?c29 ?k29) (My.mkDF ?a30 ?l30 ?c30 ?k30) (My.mkDF ?a31 ?l31 ?c31 ?k31) (My.mkDF ?a32 ?l32 ?c32 ?k32) (My.mkDF ?a33 ?l33 ?c33 ?k33) (My.mkDF ?a34 ?l34 ?c34 ?k34) (My.mkDF ?a35 ?l35 ?c35 ?k35) (My.mkDF ?a36 ?l36 ?c36 ?k36) (My.mkDF ?a37 ?l37 ?c37 ?k37) (My.mkDF ?a38 ?l38 ?c38 ?k38) (My.mkDF ?a39 ?l39 ?c39 ?k39) (My.mkDF ?a40 ?l40 ?c40 ?k40) (My.mkDF ?a41 ?l41 ?c41 ?k41) (My.mkDF ?a42 ?l42 ?c42 ?k42) (My.mkDF ?a43 ?l43 ?c43 ?k43) (My.mkDF ?a44 ?l44 ?c44 ?k44) (My.mkDF ?a45 ?l45 ?c45 ?k45) ⟨?z1,?z2,?z3,?z4,?z5,?z6,?z7,?z8,?z9,?z10,?z11,?z12,?z13,?z14,?z15,?z16,?z17,?z18,?z19,?z20,True.intro⟩
  case a1=>k_is
  case l1=>k_is
  case c1=>k_is
  case k1=>k_is
  case a2=>k_is
  case l2=>k_is
  case c2=>k_is
  case k2=>k_is
  case a3=>k_is
  case l3=>k_is
  case c3=>k_is
  case k3=>k_is
  case a4=>k_is
  case l4=>k_is
  case c4=>k_is
  case k4=>k_is
  case a5=>k_is
  case l5=>k_is
  case c5=>k_is
  case k5=>k_is
  case a6=>k_is
  case l6=>k_is
  case c6=>k_is
  case k6=>k_is
  case a7=>k_is
  case l7=>k_is
  case c7=>k_is
  case k7=>k_is
  case a8=>k_is
  case l8=>k_is
  case c8=>k_is
  case k8=>k_is
  case a9=>k_is
  case l9=>k_is
  case c9=>k_is
  case k9=>k_is
  case a10=>k_is
  case l10=>k_is
  case c10=>k_is
  case k10=>k_is
  case a11=>k_is
  case l11=>k_is
  case c11=>k_is
  case k11=>k_is
  case a12=>k_is
  case l12=>k_is
  case c12=>k_is
  case k12=>k_is
  case a13=>k_is
  case l13=>k_is
  case c13=>k_is
  case k13=>k_is
  case a14=>k_is
  case l14=>k_is
  case c14=>k_is
  case k14=>k_is
  case a15=>k_is
  case l15=>k_is
  case c15=>k_is
  case k15=>k_is
  case a16=>k_is
  case l16=>k_is
  case c16=>k_is
  case k16=>k_is
  case a17=>k_is
  case l17=>k_is
  case c17=>k_is
  case k17=>k_is
  case a18=>k_is
  case l18=>k_is
  case c18=>k_is
  case k18=>k_is
  case a19=>k_is
  case l19=>k_is
  case c19=>k_is
  case k19=>k_is
  case a20=>k_is
  case l20=>k_is
  case c20=>k_is
  case k20=>k_is
  case a21=>k_is
  case l21=>k_is
  case c21=>k_is
  case k21=>k_is
  case a22=>k_is
  case l22=>k_is
  case c22=>k_is
  case k22=>k_is
  case a23=>k_is
  case l23=>k_is
  case c23=>k_is
  case k23=>k_is
  case a24=>k_is
  case l24=>k_is
  case c24=>k_is
  case k24=>k_is
  case a25=>k_is
  case l25=>k_is
  case c25=>k_is
  case k25=>k_is
  case a26=>k_is
  case l26=>k_is
  case c26=>k_is
  case k26=>k_is
  case a27=>k_is
  case l27=>k_is
  case c27=>k_is
  case k27=>k_is
  case a28=>k_is
  case l28=>k_is
  case c28=>k_is
  case k28=>k_is
  case a29=>k_is
  case l29=>k_is
  case c29=>k_is
  case k29=>k_is
  case a30=>k_is
  case l30=>k_is
  case c30=>k_is
  case k30=>k_is
  case a31=>k_is
  case l31=>k_is
  case c31=>k_is
  case k31=>k_is
  case a32=>k_is
  case l32=>k_is
  case c32=>k_is
  case k32=>k_is
  case a33=>k_is
  case l33=>k_is
  case c33=>k_is
  case k33=>k_is
  case a34=>k_is
  case l34=>k_is
  case c34=>k_is
  case k34=>k_is
  case a35=>k_is
  case l35=>k_is
  case c35=>k_is
  case k35=>k_is
  case a36=>k_is
  case l36=>k_is
  case c36=>k_is
  case k36=>k_is
  case a37=>k_is
  case l37=>k_is
  case c37=>k_is
  case k37=>k_is
  case a38=>k_is
  case l38=>k_is
  case c38=>k_is
  case k38=>k_is
  case a39=>k_is
  case l39=>k_is
  case c39=>k_is
  case k39=>k_is
  case a40=>k_is
  case l40=>k_is
  case c40=>k_is
  case k40=>k_is
  case a41=>k_is
  case l41=>k_is
  case c41=>k_is
  case k41=>k_is
  case a42=>k_is
  case l42=>k_is
  case c42=>k_is
  case k42=>k_is
  case a43=>k_is
  case l43=>k_is
  case c43=>k_is
  case k43=>k_is
  case a44=>k_is
  case l44=>k_is
  case c44=>k_is
  case k44=>k_is
  case a45=>k_is
  case l45=>k_is
  case c45=>k_is
  case k45=>k_is
  case z1=>k_is
  case z2=>k_is
  case z3=>k_is
  case z4=>k_is
  case z5=>k_is
  case z6=>k_is
  case z7=>k_is
  case z8=>k_is
  case z9=>k_is
  case z10=>k_is
  case z11=>k_is
  case z12=>k_is
  case z13=>k_is
  case z14=>k_is
  case z15=>k_is
  case z16=>k_is
  case z17=>k_is
  case z18=>k_is
  case z19=>k_is
  case z20=>k_is
