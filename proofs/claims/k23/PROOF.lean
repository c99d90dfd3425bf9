import PyProof.Rows.All
import Wide.All
import OpenK.AllK
import Wide.FinOn
import Lean
import PyProof.EqAt
import PyProof.EqKinds
import PyProof.TupleCall
import PyProof.NeKinds
import PyProof.EnumMake
import PyProof.Draws
import PyProof.P3Eq
import PyProof.NeData
import PyProof.ReprRoads
import PyProof.CallFns
import PyProof.SliceSyntax
import PyProof.AutoIntG2
import PyProof.SumWalk
import PyProof.ConsumeWalk
import PyProof.Rows.TupIter
import PyProof.DictRoadsH
import PyProof.DictWalks
import KE.KDictList
import KE.KSortTup
import KE.KDictLaws
import KE.KNest
import PySem.Challenge.RW_contactnets_k23_live_ways_and_bars
set_option Elab.async false
set_option linter.all false
set_option genSizeOf false
set_option maxRecDepth 100000
set_option maxHeartbeats 1000000
open List renaming getElem?_append_right→qA0,getElem?_eq_some_iff→qA1,length_map→qA2,getElem?_eq_getElem→qA6,getElem?_append_left→qA7,size_toArray→qA8,mem_singleton→qA9,length_append→qB2,mem_append→qB3,mem_of_getElem?→qB5,getElem?_map→qB7,append_assoc→qB8,mem_cons→qB9,mem_cons_of_mem→qC0,map_cons→qC1,all_eq_true→qC2,pairwise_append→qC4,mem_append_right→qC6,mem_map→qC8,length_cons→qD0,lookup_cons→qD1,take_append_drop→qD2,getElem?_toArray→qD3,mem_cons_self→qD4,mem_append_left→qD5,getElem?_cons_succ→qD6,getElem?_set_self→qD7,length_filter_le→qD8,map_append→qE0,getElem_mem→qE3,mem_filter→qE4,find?_cons→qE5,length_eq_zero_iff→qE6,pairwise_singleton→qE7,getElem?_set_ne→qE8,mem_singleton_self→qF0,take_of_length_le→qF1,filter_cons→qF2,drop_eq_getElem_cons→qF3,getElem?_zip_eq_some→qF4,nodup_append→qF5,mapM_cons→qF6,map_map→qF7,mem_filterMap→qF9,pairwise_cons→qG0,take_sublist→qG1,getD_eq_getElem?_getD→qG4,perm_append_comm→qG5,cons_append→qG6,any_cons→qG8,mem_of_mem_drop→qG9,mem_iff_getElem→qH0,mem_of_mem_take→qH1,drop_sublist→qH2,filterMap_cons→qH3,length_take→qH5,length_replicate→qH7,append_nil→qH9,length_nil→qI0,map_nil→qI1,getElem?_range→qI4,flatMap_append→qI5,getElem?_replicate→qI6,length_drop→qI7,mem_reverse→qI8,filter_eq_nil_iff→qJ2,dropLast_concat_getLast→qJ3,all_cons→qJ4,pairwise_reverse→qJ5,mem_range→qJ7,replicate→qJ8,not_mem_nil→qJ9,map_eq_nil_iff→qK2,zip_cons_cons→qK4,length→qK5,range_succ_eq_map→qK8,all_map→qK9,reverse_cons→qL0,getElem_drop→qL1,pairwise_of_forall_mem_list→qL2,flatMap_cons→qL3,filter_congr→qL4,getElem?_eq_none→qL5,filterMap_append→qL6,take_length→qL8,drop_length→qM0,take_append_of_le_length→qM2,getElem?_of_mem→qM3,nodup_cons→qM5,map_congr_left→qM6,nodup_nil→qN1,find?_eq_none→qN2,pairwise_iff_getElem→qN3,mem_of_find?_eq_some→qN4,length_range→qN7,mapM_toArray→qN8,pairwise_map→qN9,length_filterMap_le→qO0,map_snd_zip→qO2,getElem?_cons_zero→qO3,flatMap_singleton→qO6,of_mem_zip→qO7,length_set→qO8,length_zip→qP0,find?_some→qP1,length_singleton→qP2,dropLast_eq_take→qP3,drop_zero→qP5,drop_drop→qP6,range'→qP8,getElem_of_mem→qP9,reverse_append→qQ0,filter_eq_self→qQ1,filter_sublist→qQ2,sum_cons→qQ3,zip_nil_right→qQ4,findIdx?_cons→qQ7,filterMap_nil→qQ8,map_singleton→qQ9,map_inj_right→qR0,zip_nil_left→qR1,any_map→qR2,take_add_one→qR5,zipIdx_cons→qR8,all_toArray→qR9,isEmpty_map→qS1,any_eq_true→qS4,mem_flatMap→qS5,forIn_cons→qS8,drop_left'→qT2,forIn_nil→qT4,map→qT5,getD→qT6
open Option renaming bind_eq_some_iff→qA3,map_eq_some_iff→qA4,isSome_iff_exists→qI3,isSome_some→qN0,isSome_map→qN5,map_some→qO9,getD_none→qR6
open Nat renaming le_refl→qB0,lt_of_lt_of_le→qC3,le_trans→qC5,ne_of_lt→qC7,zero_le→qE1,pow_le_pow_right→qE9,lt_succ_of_lt→qG3,le_of_lt→qG7,lt_irrefl→qH4,lt_of_le_of_lt→qH6,ne_of_gt→qI9,one_le_two_pow→qJ1,sub_self→qK1,add_sub_cancel_left→qK6,lt_succ_self→qL7,le_add_right→qL9,pow_le_pow_left→qM7,zero_add→qM8,le_succ→qN6,le_of_not_lt→qO1,lt_trans→qO4,add_mul→qP7,lt_or_eq_of_le→qQ5,add_sub_cancel→qQ6,pow_succ→qR4,succ_ne_self→qR7,succ_le_succ→qS2,one_mul→qS6,mul_pow→qS7,le_antisymm→qS9,not_lt_zero→qT0,min_eq_left→qT1
open Bool renaming false_ne_true→qB1,and_eq_true→qC9,false_eq_true→qD9,or_eq_true→qF8,not_eq_true'→qI2,eq_iff_iff→qM4,false_and→qP4,not_eq_true→qS3,and_false→qT3
open Int renaming emod_lt_of_pos→qJ0,toNat_natCast→qJ6,emod_nonneg→qK3,fdiv_eq_ediv_of_nonneg→qM9,le_trans→qO5
open PySem.Heap renaming get?_push_of_some→qA5,get?_push_size→qB4,lt_size→qB6,SameBut→qE2,size_push→qG2,get?_update_self→qH8,IsTuple→qK0,get?_update_other→qK7,IsList→qM1,get?_push_ne→qR3,size_update→qS0
namespace L2
open PySem PySem.Spec PyProof.Rows
noncomputable abbrev Key:=Sum Int Str
noncomputable def zJ7:Key→Value→Bool
 | .inl k,v=>Value.isInt k v
 | .inr x,v=>Value.isStrOf x v
noncomputable def keyH (w:World):Key→Int
 | .inl k=>hashInt k
 | .inr x=>hashStr w x
theorem zAA:∀ {k:Key}{v:Value},zJ7 k v=true→(∃ i t,k=Sum.inl i∧v=Value.int i t)∨(∃ x t,k=Sum.inr x∧v=Value.str x t)
 | .inl i,v,h=>by
  obtain ⟨t,e⟩:=Value.isInt_shape (k:=i) (v:=v) h
  exact .inl ⟨i,t,rfl,e⟩
 | .inr x,v,h=>by
  obtain ⟨t,e⟩:=Value.isStrOf_shape (x:=x) (v:=v) h
  exact .inr ⟨x,t,rfl,e⟩
theorem zN3 (i:Int) (t:Tok):zJ7 (.inl i) (.int i t)=true:=by simp [zJ7,Value.isInt]
theorem zN2 (x:Str) (t:Tok):zJ7 (.inr x) (.str x t)=true:=by simp [zJ7,Value.isStrOf]
theorem zUo (a b:Int):decide ((Sum.inl a:Key)=Sum.inl b)=(a == b):=by
 by_cases e:a=b
 ·subst e; simp
 ·have h:¬ (Sum.inl a:Key)=Sum.inl b:=fun q=>e (Sum.inl.inj q)
  rw [decide_eq_false h]
  exact (beq_eq_false_iff_ne.mpr e).symm
theorem zUl (a b:Str):decide ((Sum.inr a:Key)=Sum.inr b)=decide (a=b):=by
 by_cases e:a=b
 ·subst e; simp
 ·have h:¬ (Sum.inr a:Key)=Sum.inr b:=fun q=>e (Sum.inr.inj q)
  rw [decide_eq_false h,decide_eq_false e]
theorem zUn (a:Int) (b:Str):decide ((Sum.inl a:Key)=Sum.inr b)=false:=decide_eq_false (fun q=>nomatch q)
theorem zUm (a:Str) (b:Int):decide ((Sum.inr a:Key)=Sum.inl b)=false:=decide_eq_false (fun q=>nomatch q)
noncomputable def zAn (prog:Program) (w:World):PySem.KeyKind prog w Key where
 is:=zJ7
 hash:=keyH w
 inj:=fun v a b ha hb=>by
  rcases zAA ha with ⟨i,t,rfl,rfl⟩ | ⟨x,t,rfl,rfl⟩
  ·rcases zAA hb with ⟨j,u,rfl,e⟩ | ⟨y,u,rfl,e⟩
   ·injection e with e1 _; rw [e1]
   ·exact nomatch e
  ·rcases zAA hb with ⟨j,u,rfl,e⟩ | ⟨y,u,rfl,e⟩
   ·exact nomatch e
   ·injection e with e1 _; rw [e1]
 byValue:=fun k v h=>by
  rcases zAA h with ⟨i,t,rfl,rfl⟩ | ⟨x,t,rfl,rfl⟩ <;> rfl
 pyHash:=fun hv h=>by
  rcases zAA hv with ⟨i,t,rfl,rfl⟩ | ⟨x,t,rfl,rfl⟩
  ·exact wpAny_pyHash_int h
  ·exact wpAny_pyHash_str h
 eqBool:=fun hu hv h=>by
  rcases zAA hu with ⟨i,t,rfl,rfl⟩ | ⟨x,t,rfl,rfl⟩
  ·rcases zAA hv with ⟨j,u,rfl,rfl⟩ | ⟨y,u,rfl,rfl⟩
   ·rw [zUo] at h; exact wpAny_eqBool_int h
   ·rw [zUn] at h; exact SeqAt.EqAt.int_str i t y u _ _ _ _ h
  ·rcases zAA hv with ⟨j,u,rfl,rfl⟩ | ⟨y,u,rfl,rfl⟩
   ·rw [zUm] at h; exact SeqAt.EqAt.str_int x t j u _ _ _ _ h
   ·rw [zUl] at h; exact wpAny_eqBool_str h
 «strs»:=fun k x t v h=>by
  rcases zAA h with ⟨i,u,rfl,e⟩ | ⟨y,u,rfl,e⟩
  ·exact nomatch e
  ·injection e with e1 _
   subst e1
   cases v <;> rfl
theorem zJ5 (prog:Program) (w:World) (i:Int) (t:Tok):(zAn prog w).is (.inl i) (.int i t)=true:=zN3 i t
theorem zJ4 (prog:Program) (w:World) (x:Str) (t:Tok):(zAn prog w).is (.inr x) (.str x t)=true:=zN2 x t
inductive V where
 | non | bl (b:Bool) | int (i:Int) | str (x:Str) | byt (b:Array UInt8) | flt (b:UInt64) | ref (a:Addr) | ty (n:String)
 deriving DecidableEq
noncomputable def RelV:V→Value→Prop
 | .non,u=>u=Value.none
 | .bl b,u=>u=Value.bool b
 | .int i,u=>∃ t,u=Value.int i t
 | .str x,u=>∃ t,u=Value.str x t
 | .byt b,u=>∃ t,u=Value.bytes b t
 | .flt b,u=>∃ t,u=Value.float b t
 | .ref a,u=>u=Value.ref a
 | .ty n,u=>u=Value.type n
noncomputable abbrev Vals:List V→List Value→Prop:=Paired RelV
theorem Vals.length {xs:List V}{us:List Value} (r:Vals xs us):xs.length=us.length:=Paired.length r
theorem Vals.get:∀ {xs:List V}{us:List Value}{i:Nat}{x:V},Vals xs us→xs[i]?=some x→∃ u,us[i]?=some u∧RelV x u
 | _,_,_,_,.nil,e=>by simp at e
 | _,_,0,_,.cons r _,e=>by simp at e; subst e; exact ⟨_,rfl,r⟩
 | _,_,i+1,x,.cons _ t,e=>by
  obtain ⟨u,h1,h2⟩:=Vals.get (i:=i) (x:=x) t (by simpa using e)
  exact ⟨u,by simpa using h1,h2⟩
theorem Vals.set {x:V}{u:Value} (r:RelV x u):∀ {xs:List V}{us:List Value} (i:Nat),Vals xs us→Vals (xs.set i x) (us.set i u)
 | _,_,_,.nil=>.nil
 | _,_,0,.cons _ t=>.cons r t
 | _,_,i+1,.cons q t=>.cons q (Vals.set r i t)
theorem Vals.append:∀ {xs ys:List V}{us ws:List Value},Vals xs us→Vals ys ws→Vals (xs++ys) (us++ws)
 | _,_,_,_,.nil,s=>s
 | _,_,_,_,.cons r t,s=>.cons r (Vals.append t s)
theorem Vals.take:∀ {xs:List V}{us:List Value} (n:Nat),Vals xs us→Vals (xs.take n) (us.take n)
 | _,_,0,_=>.nil
 | _,_,_+1,.nil=>.nil
 | _,_,n+1,.cons r t=>.cons r (Vals.take n t)
theorem Vals.drop:∀ {xs:List V}{us:List Value} (n:Nat),Vals xs us→Vals (xs.drop n) (us.drop n)
 | _,_,0,r=>r
 | _,_,_+1,.nil=>.nil
 | _,_,n+1,.cons _ t=>Vals.drop n t
noncomputable def RelO:Option V→Option Value→Prop
 | some v,some u=>RelV v u
 | none,none=>True
 | _,_=>False
noncomputable def KV {κ:Type}:List (κ × V)→List (κ × Value)→Prop:=Paired fun (p:κ × V) (q:κ × Value)=>p.1=q.1∧RelV p.2 q.2
noncomputable def kV:Key→V
 | .inl i=>.int i
 | .inr x=>.str x
inductive HO where
 /-- a list -/
 | lst (xs:List V)
 /-- a tuple (never changes) -/
 | tup (xs:List V)
 /-- a dict whose keys are ints and texts; one whose keys are tuples of ints and texts (the empty one is both) -/
 | dK (kvs:List (Key × V)) | dT (kvs:List (List Key × V))
 /-- a set of ints: its members,its size -/
 | set (S:Int→Bool) (n:Nat)
 /-- an instance of the class at C,its dict at dx,its attributes -/
 | ins (C dx:Addr) (fs:List (Str × V))
 /-- the dict of the instance at x -/
 | own (x:Addr)
 /-- the dict of an exception -/
 | xd (fs:List (Str × V))
 /-- a bound method,f of x -/
 | met (f x:Addr)
 /-- a range object lo,lo+1,.. below hi -/
 | rng (lo hi:Int)
 /-- a thing that is known to the object (the script; a dict while a loop walks it): read,never written while it is so -/
 | frz (o:Obj) (u:HO)
 /-- a code object's table -/
 | tbl (ps:Array Value)
 /-- any other thing,by what is true of its one object (a def of one's own: SetO a S n:=HO.ext fun h=>..) -/
 | ext (φ:Heap→Prop)
noncomputable abbrev Hp:=Addr→Option HO
noncomputable def upd (H:Hp) (a:Addr) (o:HO):Hp:=fun b=>if b=a then some o else H b
theorem zAb {H:Hp}{a:Addr}{o:HO}:upd H a o a=some o:=by unfold upd; rw [if_pos rfl]
theorem zAa {H:Hp}{a b:Addr}{o:HO} (h:b≠a):upd H a o b=H b:=by unfold upd; rw [if_neg h]
theorem zM0 {H:Hp}{a:Addr}{o u:HO}:upd (upd H a o) a u=upd H a u:=by
 funext b; unfold upd; split <;> rfl
theorem zRx {H:Hp}{a b:Addr}{o u:HO} (h:H a=some o) (h':H b=some u) (d:o≠u):a≠b:=by
 intro e; subst e; rw [h] at h'; exact d (Option.some.inj h')
theorem zAD {H:Hp}{a b:Addr}{o:HO} (h:H a=some o) (h':H b=none):a≠b:=by
 intro e; subst e; rw [h] at h'; cases h'
section
variable (P:Program) (w:World)
noncomputable def zBL (H:Hp) (h:Heap) (a:Addr):HO→Prop
 | .lst xs=>xs.length≤sizeLine∧∃ (its:List Value) (n:Nat),Vals xs its∧h.get? a=some { cls:=.type "list",data:=.seq its.toArray n }
 | .tup xs=>xs.length≤sizeLine∧∃ its:List Value,Vals xs its∧IsTup h a its.toArray
 | .dK kvs=>kvs.length≤sizeLine∧(a == sysModules)=false∧∃ vs,KV kvs vs∧h.DictOf (zAn P w) a vs
 | .dT kvs=>kvs.length≤sizeLine∧(a == sysModules)=false∧∃ xs:List (List Key × Addr × Value),
   Paired (fun (p:List Key × V) (q:List Key × Addr × Value)=>p.1=q.1∧H q.2.1=some (.tup (p.1.map kV))∧RelV p.2 q.2.2) kvs xs ∧
   ∃ o es ep,h.get? a=some o∧o.ExactDict∧o.data=.dict es ep∧es.toList=xs.map (entryOfKey (tupleKind (zAn P w)))∧(xs.map (·.1)).Nodup
 | .set S n=>h.SetOf (intKind P w) a S n
 | .ins C dx fs=>H dx=some (.own a)∧fs.length≤1000∧dx≠a∧h.get? a=some (W.instObj C dx) ∧
   ∃ mA,h.Ns1 dx mA∧(∀ f,RelO (fs.lookup f) (mA f))∧PySem.Within mA (fs.map (·.1))
 | .own _=>∃ o,h.get? a=some o
 | .xd fs=>∃ mA,h.Ns1 a mA∧∀ f,RelO (fs.lookup f) (mA f)
 | .rng lo hi=>∃ t u v,h.get? a=some { cls:=.type "range",data:=.fields #[.int lo t,.int hi u,.int 1 v] }
 | .frz o u=>h.get? a=some o∧zBL H h a u
 | .tbl ps=>h.get? a=some { cls:=.none,data:=.fields ps }
 | .met f x=>h.get? a=some (W.methodObj (.ref f) (.ref x))
 | .ext φ=>φ h∧(∃ o,h.get? a=some o)∧∀ h1 h2:Heap,φ h1→(∀ o,h1.get? a=some o→h2.get? a=some o)→φ h2
def HOk (H:Hp) (h:Heap):Prop:=∀ a o,H a=some o→zBL P w H h a o
end
section
variable {P:Program}{w:World}{H H':Hp}{h h':Heap}{a:Addr}{o:HO}
theorem zBL.lt (x:zBL P w H h a o):a<h.objs.size:=by
 cases o with
 | lst xs=>obtain ⟨_,_,_,_,e⟩:=x; exact qB6 e
 | tup xs=>obtain ⟨_,_,_,p⟩:=x; exact p.lt
 | dK kvs=>obtain ⟨_,_,_,_,o,_,_,e,_⟩:=x; exact qB6 e
 | dT kvs=>obtain ⟨_,_,_,_,o,_,_,e,_⟩:=x; exact qB6 e
 | set S n=>obtain ⟨o,_,_,_,e,_⟩:=x; exact qB6 e
 | ins C dx fs=>obtain ⟨_,_,_,e,_⟩:=x; exact qB6 e
 | own y=>obtain ⟨_,e⟩:=x; exact qB6 e
 | xd fs=>obtain ⟨_,⟨_,_,_,e,_⟩,_⟩:=x; exact qB6 e
 | rng lo hi=>obtain ⟨_,_,_,e⟩:=x; exact qB6 e
 | frz ob u=>obtain ⟨e,_⟩:=x; exact qB6 e
 | tbl ps=>exact qB6 (show h.get? a=some _ from x)
 | met f y=>exact qB6 (show h.get? a=some _ from x)
 | ext φ=>obtain ⟨_,⟨_,e⟩,_⟩:=x; exact qB6 e
theorem Paired.mapP {α β:Type}{F G:α→β→Prop}:∀ {l₁:List α}{l₂:List β},Paired F l₁ l₂→(∀ a b,F a b→G a b)→Paired G l₁ l₂
 | _,_,.nil,_=>.nil
 | _,_,.cons r t,f=>.cons (f _ _ r) (Paired.mapP t f)
theorem zBL.stay (x:zBL P w H h a o) (k:∀ b u,(b=a∨H b=some (.own a))→h.get? b=some u→h'.get? b=some u)
  (ho:∀ b,H b=some (.own a)→H' b=some (.own a)) (ht:∀ b xs,H b=some (.tup xs)→H' b=some (.tup xs)):zBL P w H' h' a o:=by
 induction o with
 | lst xs=>obtain ⟨z,its,n,r,e⟩:=x; exact ⟨z,its,n,r,k _ _ (.inl rfl) e⟩
 | tup xs=>obtain ⟨z,its,r,ob,e,c⟩:=x; exact ⟨z,its,r,ob,k _ _ (.inl rfl) e,c⟩
 | dK kvs=>obtain ⟨z,y,vs,r,ob,es,ep,e,c⟩:=x; exact ⟨z,y,vs,r,ob,es,ep,k _ _ (.inl rfl) e,c⟩
 | dT kvs =>
  obtain ⟨z,y,xs,r,ob,es,ep,e,c⟩:=x
  exact ⟨z,y,xs,Paired.mapP r fun p q z=>⟨z.1,ht _ _ z.2.1,z.2.2⟩,ob,es,ep,k _ _ (.inl rfl) e,c⟩
 | set S n=>obtain ⟨ob,es,ep,t,e,c⟩:=x; exact ⟨ob,es,ep,t,k _ _ (.inl rfl) e,c⟩
 | ins C dx fs =>
  obtain ⟨d,z,ne,e,mA,⟨od,es,ep,e2,c⟩,r⟩:=x
  exact ⟨ho _ d,z,ne,k _ _ (.inl rfl) e,mA,⟨od,es,ep,k _ _ (.inr d) e2,c⟩,r⟩
 | own y=>obtain ⟨ob,e⟩:=x; exact ⟨ob,k _ _ (.inl rfl) e⟩
 | xd fs=>obtain ⟨mA,⟨od,es,ep,e,c⟩,r⟩:=x; exact ⟨mA,⟨od,es,ep,k _ _ (.inl rfl) e,c⟩,r⟩
 | rng lo hi=>obtain ⟨t,u,v,e⟩:=x; exact ⟨t,u,v,k _ _ (.inl rfl) e⟩
 | frz ob u ih=>obtain ⟨e,q⟩:=x; exact ⟨k _ _ (.inl rfl) e,ih q⟩
 | tbl ps =>
  have e:h.get? a=some { cls:=.none,data:=.fields ps }:=x
  show h'.get? a=some { cls:=.none,data:=.fields ps }
  exact k a _ (.inl rfl) e
 | met f y =>
  have e:h.get? a=some (W.methodObj (.ref f) (.ref y)):=x
  show h'.get? a=some (W.methodObj (.ref f) (.ref y))
  exact k a _ (.inl rfl) e
 | ext φ=>obtain ⟨p,⟨o,e⟩,st⟩:=x; exact ⟨st _ _ p fun o q=>k _ _ (.inl rfl) q,⟨o,k _ _ (.inl rfl) e⟩,st⟩
theorem HOk.lt (x:HOk P w H h) (e:H a=some o):a<h.objs.size:=(x a o e).lt
theorem HOk.fresh (x:HOk P w H h) (e:h.objs.size≤a):H a=none:=by
 cases q:H a with
 | none=>rfl
 | some u=>exact absurd (qC3 (x.lt q) e) (qH4 _)
theorem HOk.kept (x:HOk P w H h) (k:∀ b u,h.get? b=some u→h'.get? b=some u):HOk P w H h':=fun a o e =>
 (x a o e).stay (fun b u _ q=>k b u q) (fun _ q=>q) fun _ _ q=>q
theorem HOk.laid (x:HOk P w H h) (k:∀ b u,h.get? b=some u→h'.get? b=some u) (hp:h.objs.size≤a) (new:zBL P w (upd H a o) h' a o):HOk P w (upd H a o) h':=fun b u e=>by
 have hn:=x.fresh hp
 by_cases hb:b=a
 ·subst hb; rw [zAb] at e; cases e; exact new
 ·rw [zAa hb] at e
  exact (x b u e).stay (fun c v _ q=>k c v q) (fun c q=>by rw [zAa (zAD q hn)]; exact q) fun c xs q=>by rw [zAa (zAD q hn)]; exact q
end
def Rd (H:Hp) (a:Addr) (u:HO):Prop:=H a=some u∨∃ o,H a=some (.frz o u)
theorem Rd.ok {P:Program}{w:World}{H:Hp}{h:Heap}{a:Addr}{u:HO} (r:Rd H a u) (x:HOk P w H h):zBL P w H h a u:=by
 rcases r with r | ⟨o,r⟩
 ·exact x a u r
 ·obtain ⟨_,q⟩:=x a _ r
  exact q
noncomputable def Mut:Option HO→Prop
 | some (.lst _)=>True
 | some (.dK _)=>True
 | some (.dT _)=>True
 | some (.set _ _)=>True
 | some (.ins _ _ _)=>True
 | some (.ext _)=>True
 | _=>False
section
variable {P:Program}{w:World}{H:Hp}{h h':Heap}{x e:Addr}{o':HO}
theorem HOk.write (ok:HOk P w H h) (mu:Mut (H x)) (he:e=x∨H e=some (.own x)) (k:∀ b u,b≠e→h.get? b=some u→h'.get? b=some u) (heo:∃ u,h'.get? e=some u)
  (new:zBL P w (upd H x o') h' x o'):HOk P w (upd H x o') h':=fun b u q=>by
 have nown:∀ c y,H c=some (.own y)→c≠x:=fun c y r z=>by subst z; rw [r] at mu; exact mu
 have ntup:∀ c xs,H c=some (.tup xs)→c≠x:=fun c xs r z=>by subst z; rw [r] at mu; exact mu
 by_cases hb:b=x
 ·subst hb; rw [zAb] at q; cases q; exact new
 ·rw [zAa hb] at q
  by_cases hbe:b=e
  ·have q':H b=some (.own x):=by
    rcases he with z | z
    ·exact absurd (hbe.trans z) hb
    ·rw [hbe]; exact z
   rw [q] at q'; cases q'
   obtain ⟨v,hv⟩:=heo
   exact ⟨v,by rw [hbe]; exact hv⟩
  ·refine (ok b u q).stay (fun c v hc r=>k c v ?_ r) (fun c r=>by rw [zAa (nown c b r)]; exact r) fun c xs r=>by rw [zAa (ntup c xs r)]; exact r
   rcases hc with rfl | hc
   ·exact hbe
   ·rintro rfl
    rcases he with z | z
    ·exact nown c b hc z
    ·rw [hc] at z; cases z; exact hb rfl
end
structure Un (fs ex:List Addr) (H H':Hp) (h h':Heap):Prop where
 keep:∀ b o,h.get? b=some o→H b=none→b∉fs→b∉ex→h'.get? b=some o
 slot:∀ b o,h.get? b=some o→H b=none→b∈fs→b∉ex→∃ sl,h'.get? b=some { o with slots:=sl }
 free:∀ b o,h.get? b=some o→H b=none→b∉ex→H' b=none
 there:∀ b o,h.get? b=some o→b∉ex→∃ o',h'.get? b=some o'
 tups:∀ b xs,H b=some (.tup xs)→H' b=some (.tup xs)
 frzs:∀ b o u,H b=some (.frz o u)→H' b=some (.frz o u)
 tbls:∀ b ps,H b=some (.tbl ps)→∃ more,H' b=some (.tbl (ps++more))
section
variable {fs fs' ex ex':List Addr}{H H1 H2:Hp}{h h1 h2 h':Heap}{a x e:Addr}{o:HO}
theorem Un.any (u:Un fs ex H H1 h h1) {b:Addr}{ob:Obj} (q:h.get? b=some ob) (n:H b=none) (hx:b∉ex):∃ sl,h1.get? b=some { ob with slots:=sl }:=by
 by_cases hb:b∈fs
 ·exact u.slot b ob q n hb hx
 ·exact ⟨ob.slots,u.keep b ob q n hb hx⟩
theorem Un.kept (k:∀ b u,h.get? b=some u→h'.get? b=some u):Un fs ex H H h h' :=
 ⟨fun b ob q _ _ _=>k b ob q,fun b ob q _ _ _=>⟨ob.slots,k b ob q⟩,fun _ _ _ n _=>n,fun b ob q _=>⟨ob,k b ob q⟩,fun _ _ q=>q,fun _ _ _ q=>q,fun _ ps q=>⟨#[],by rw [q]; simp⟩⟩
theorem Un.refl:Un fs ex H H h h:=Un.kept fun _ _ q=>q
theorem Un.laid (k:∀ b u,h.get? b=some u→h'.get? b=some u) (hp:h.objs.size≤a) (hn:H a=none):Un fs ex H (upd H a o) h h' where
 keep:=fun b u q _ _ _=>k b u q
 slot:=fun b u q _ _ _=>⟨u.slots,k b u q⟩
 free:=fun b u q n _=>by rw [zAa (qC7 (qC3 (qB6 q) hp))]; exact n
 there:=fun b u q _=>⟨u,k b u q⟩
 tups:=fun b xs q=>by rw [zAa (zAD q hn)]; exact q
 frzs:=fun b u xs q=>by rw [zAa (zAD q hn)]; exact q
 tbls:=fun b ps q=>⟨#[],by rw [zAa (zAD q hn),q]; simp⟩
theorem Un.write (mu:Mut (H x)) (he:e=x∨H e=some (.own x)) (k:∀ b u,b≠e→h.get? b=some u→h'.get? b=some u) (heo:∃ u,h'.get? e=some u):Un fs ex H (upd H x o) h h':=by
 have hx:∀ b,H b=none→b≠x:=fun b n z=>by subst z; rw [n] at mu; exact mu
 have hb:∀ b,H b=none→b≠e:=fun b n z=>by
  subst z
  rcases he with r | r
  ·exact hx b n r
  ·rw [n] at r; cases r
 have hm:∀ b u,H b=some u→¬ Mut (some u)→b≠x:=fun b u q nm z=>by subst z; rw [q] at mu; exact nm mu
 refine ⟨fun b u q n _ _=>k b u (hb b n) q,fun b u q n _ _=>⟨u.slots,k b u (hb b n) q⟩,fun b u q n _=>by rw [zAa (hx b n)]; exact n,fun b u q _=>?_,
  fun b xs q=>by rw [zAa (hm b _ q fun z=>z)]; exact q,fun b u xs q=>by rw [zAa (hm b _ q fun z=>z)]; exact q,fun b ps q=>⟨#[],by rw [zAa (hm b _ q fun z=>z),q]; simp⟩⟩
 by_cases hbe:b=e
 ·subst hbe; exact heo
 ·exact ⟨u,k b u hbe q⟩
end
noncomputable def trk (h:Heap) (H:Hp):List Addr:=(List.range h.objs.size).filter fun a=>(H a).isSome
noncomputable def hidT (h:Heap) (H:Hp):Heap:=W.hideAll h (trk h H)
theorem zNj (h:Heap) (H:Hp):(hidT h H).objs.size=h.objs.size:=W.hideAll_size _ _
theorem zPw {h:Heap}{H:Hp}{b:Addr}{o:Obj} (e:h.get? b=some o) (n:H b=none):(hidT h H).get? b=some o :=
 W.hideAll_get _ e fun hm=>by
  have q:(H b).isSome=true:=(qE4.mp hm).2
  rw [n] at q; simp at q
theorem zRs {h:Heap}{H:Hp}{b:Addr}{o:Obj} (e:(hidT h H).get? b=some o):h.get? b=some o∧H b=none:=by
 have e':h.get? b=some o:=W.of_hideAll (trk h H) e
 refine ⟨e',?_⟩
 cases q:H b with
 | none=>rfl
 | some x =>
  have hm:b∈trk h H:=qE4.mpr ⟨qJ7.mpr (qB6 e'),by simp [q]⟩
  have z:(hidT h H).get? b=none:=W.hideAll_none (trk h H) hm
  rw [z] at e; cases e
noncomputable def zSl (g h:Heap) (L:Addr):List (Addr × Obj):=(List.range h.objs.size).filterMap fun a=>if a=L∨(g.get? a).isSome=true then none else (h.get? a).map fun o=>(a,o)
noncomputable def rest (g h:Heap) (L d:Addr):List (Addr × Obj):=(zSl g h L).filter fun p=>decide (p.1≠d)
structure Mod (K:W.Frag) (mg:Str→Option Value) (base:Heap):Prop where
 kin:K.In base
 glob:base.Ns mainGlobals mg
 blt:∃ mb,base.Ns builtinsNs mb∧∀ x:Str,x ≠ "__name__"→mb x=bootBuiltins x
 nolimit:base.NoLimit
structure Cx where
 prog:Program
 w:World
 K:W.Frag
 mg:Str→Option Value
 base:Heap
 A:Around
 N:List Str
 s₀:Shared
 H₀:Hp
 env:Env
 outer:List Env
 stack:List Env
 ex:List Addr
 fn:Str→Bool
 calm:Bool
 pn:List (Addr × Obj)
 xe:Value→Shared→Prop
noncomputable def frs (l:List Env):List Addr:=l.filterMap (·.frame)
noncomputable abbrev Cx.fs (X:Cx):List Addr:=frs X.outer
def Vis (sc:Scope) (x:Str):Prop:=sc.names.lookup x=some .local∨sc.names.lookup x=some .cell∨sc.names.lookup x=some .free
def Loc (sc:Scope) (x:Str):Prop:=sc.names.lookup x=some .local∨sc.names.lookup x=some .cell
def Look (env:Env) (h:Heap) (m:Str→Option Value) (x:Str) (u:Value):Prop :=
 (env.kindOf x=some .local∧m x=some u)∨((env.kindOf x=some .cell∨env.kindOf x=some .free)∧∃ c,env.cells.lookup x=some c∧h.IsCell c (some u))
structure Cx.Ok (X:Cx):Prop where
 mod:Mod X.K X.mg X.base
 kind:X.env.scope.kind=.function
 glob:X.env.globals=mainGlobals
 blt:X.env.builtins=builtinsNs
 above:X.s₀.heap.objs.size≤X.env.locals
 inj:∀ x y c,X.env.cells.lookup x=some c→X.env.cells.lookup y=some c→x=y
 has:∀ x,(X.env.kindOf x=some .cell∨X.env.kindOf x=some .free)→∃ c,X.env.cells.lookup x=some c
 cab:∀ x c,X.fn x=true→X.env.cells.lookup x=some c→X.s₀.heap.objs.size≤c
 hd:X.calm=true→X.A.handled=none
 frames:X.A.frames=some X.stack
 stk:X.stack=X.outer∨(X.stack=X.env::X.outer∧X.env.frame=some X.env.locals)
 exf:∀ b∈X.ex,b≠X.env.locals∧∀ x c,X.env.cells.lookup x=some c→c≠b
 bs:∀ b o,X.base.get? b=some o→X.s₀.heap.get? b=some o∧X.H₀ b=none
 bsz:X.base.objs.size≤X.s₀.heap.objs.size
 noex:∀ b o,X.base.get? b=some o→b∉X.ex
 exfs:∀ b∈X.ex,b∉X.fs
 funs:X.s₀.heap.FunFrames X.base X.outer
 frf:∀ b∈X.fs,X.H₀ b=none
structure Inv (X:Cx) (pins:List (Addr × Obj)) (σ:List (Option V)) (H:Hp) (s:Shared):Prop where
 ok:X.Ok
 os:s.os=X.s₀.os
 bare:AllBare s.gens
 base:Un X.fs X.ex X.H₀ H X.s₀.heap s.heap
 loc:∃ m,s.heap.Ns X.env.locals m∧∀ (i:Nat) (x:Str) (v:V),X.N[i]?=some x→σ[i]?=some (some v)→Vis X.env.scope x→∃ u,RelV v u∧Look X.env s.heap m x u
 cell:∀ x c,X.env.cells.lookup x=some c→∃ v,s.heap.IsCell c v
 free:H X.env.locals=none
 freeC:∀ x c,X.env.cells.lookup x=some c→H c=none
 pin:∀ p∈X.pn++pins,s.heap.get? p.1=some p.2∧H p.1=none∧p.1≠X.env.locals∧p.1∉X.fs∧∀ v,p.2.data≠.cell v
 hok:HOk X.prog X.w H s.heap
 len:σ.length=X.N.length
section
variable {X:Cx}{pins:List (Addr × Obj)}{σ:List (Option V)}{H H':Hp}{s:Shared}{h':Heap}
theorem Cx.Ok.nofr (ok:X.Ok) {b:Addr}{o:Obj} (e:X.base.get? b=some o):b∉X.fs:=fun hb=>by
 have:=(ok.funs.mem hb).1
 rw [e] at this; cases this
theorem Inv.bs (I:Inv X pins σ H s):∀ b o,X.base.get? b=some o→s.heap.get? b=some o∧H b=none:=fun b o e =>
 ⟨I.base.keep b o (I.ok.bs b o e).1 (I.ok.bs b o e).2 (I.ok.nofr e) (I.ok.noex b o e),I.base.free b o (I.ok.bs b o e).1 (I.ok.bs b o e).2 (I.ok.noex b o e)⟩
theorem Inv.bk (I:Inv X pins σ H s):∀ b o,X.base.get? b=some o→s.heap.get? b=some o:=fun b o e=>(I.bs b o e).1
theorem Inv.mod (I:Inv X pins σ H s):Mod X.K X.mg X.base:=I.ok.mod
theorem Inv.kIn (I:Inv X pins σ H s):X.K.In s.heap:=I.ok.mod.kin.keeps I.bk
theorem Inv.lt (I:Inv X pins σ H s):X.env.locals<s.heap.objs.size:=let ⟨_,hn,_⟩:=I.loc; hn.lt
theorem Inv.sz (I:Inv X pins σ H s):X.s₀.heap.objs.size≤s.heap.objs.size:=qC5 I.ok.above (qG7 I.lt)
theorem Inv.nofs (I:Inv X pins σ H s) {a:Addr} (h:s.heap.objs.size≤a):a∉X.fs:=fun hb=>by
 obtain ⟨_,o,ho,_⟩:=I.ok.funs.mem hb
 exact absurd (qC3 (qB6 ho) (qC5 I.sz h)) (qH4 _)
theorem Inv.cne (I:Inv X pins σ H s):∀ x c,X.env.cells.lookup x=some c→c≠X.env.locals:=fun x c e z=>by
 obtain ⟨v,o,ho,hd⟩:=I.cell x c e
 obtain ⟨m,⟨o',es,ep,ho',hd',_⟩,_⟩:=I.loc
 rw [z,ho'] at ho; cases ho; rw [hd'] at hd; cases hd
theorem Inv.funs (I:Inv X pins σ H s):s.heap.FunFrames X.base X.outer:=by
 have all:∀ (l:List Env),(∀ b∈frs l,b∈X.fs)→X.s₀.heap.FunFrames X.base l→s.heap.FunFrames X.base l:=by
  intro l
  induction l with
  | nil=>intro _ _; trivial
  | cons env r ih =>
   intro hs hl
   obtain ⟨hk,⟨L,o,hf,hn,ho,hd⟩,hr⟩:=hl
   have hL:L∈X.fs:=hs L (by unfold frs; rw [qH3,hf]; exact qD4)
   obtain ⟨sl,e⟩:=I.base.slot L o ho (I.ok.frf L hL) hL fun z=>I.ok.exfs L z hL
   exact ⟨hk,⟨L,_,hf,hn,e,hd⟩,ih (fun b hb=>hs b (by unfold frs; rw [qH3,hf]; exact qC0 _ hb)) hr⟩
 exact all X.outer (fun _ hb=>hb) I.ok.funs
theorem Inv.stack (I:Inv X pins σ H s):s.heap.FunFrames X.base X.stack:=by
 rcases I.ok.stk with e | ⟨e,hf⟩
 ·rw [e]; exact I.funs
 ·rw [e]
  obtain ⟨m,hn,_⟩:=I.loc
  refine .cons (by rw [I.ok.kind]; decide) hf hn ?_ I.funs
  exact Heap.get?_none_of_le (qC5 I.ok.bsz I.ok.above)
theorem Inv.stkSub (I:Inv X pins σ H s):∀ b∈frs X.stack,b∈X.env.locals::X.fs:=fun b hb=>by
 rcases I.ok.stk with e | ⟨e,hf⟩
 ·rw [e] at hb; exact qC0 _ hb
 ·rw [e] at hb
  unfold frs at hb
  rw [qH3,hf] at hb
  exact hb
theorem Inv.stkFree (I:Inv X pins σ H s):∀ b∈frs X.stack,H b=none:=fun b hb=>by
 rcases qB9.mp (I.stkSub b hb) with e | hb
 ·rw [e]; exact I.free
 ·obtain ⟨_,o,ho,_⟩:=I.ok.funs.mem hb
  exact I.base.free b o ho (I.ok.frf b hb) fun z=>I.ok.exfs b z hb
theorem Inv.step {g':Array GenState}{t':Nat}{d':Drawn}{ch:List Addr} (I:Inv X pins σ H s)
  (hch:∀ b∈ch,(b∈X.ex∨X.s₀.heap.objs.size≤b)∧b≠X.env.locals∧(∀ x c,X.env.cells.lookup x=some c→c≠b)∧∀ p∈X.pn++pins,p.1≠b)
  (keep:∀ b o,b≠X.env.locals→b∉X.fs→b∉ch→s.heap.get? b=some o→H b=none→h'.get? b=some o)
  (slot:∀ b o,b≠X.env.locals→b∈X.fs→b∉ch→s.heap.get? b=some o→H b=none→∃ sl,h'.get? b=some { o with slots:=sl }) (free:∀ b o,b∉ch→s.heap.get? b=some o→H b=none→H' b=none)
  (there:∀ b o,b∉ch→s.heap.get? b=some o→∃ o',h'.get? b=some o')
  (tups:∀ b xs,H b=some (.tup xs)→H' b=some (.tup xs)) (frzs:∀ b o u,H b=some (.frz o u)→H' b=some (.frz o u)) (tbls:∀ b ps,H b=some (.tbl ps)→∃ more,H' b=some (.tbl (ps++more)))
  (ns:∀ m,s.heap.Ns X.env.locals m→h'.Ns X.env.locals m) (hok:HOk X.prog X.w H' h') (hg:AllBare g') :
  Inv X pins σ H' { s with heap:=h',gens:=g',drawn:=d',toks:=t' }:=by
 have neL:∀ b o,X.s₀.heap.get? b=some o→b≠X.env.locals:=fun b o e=>qC7 (qC3 (qB6 e) I.ok.above)
 have neC:∀ b o,X.s₀.heap.get? b=some o→b∉X.ex→b∉ch:=fun b o e hx hb=>by
  rcases (hch b hb).1 with z | z
  ·exact hx z
  ·exact absurd (qC3 (qB6 e) z) (qH4 _)
 have cellK:∀ x c,X.env.cells.lookup x=some c→∀ v,s.heap.IsCell c v→h'.IsCell c v:=fun x c e v ⟨o,ho,hd⟩=>by
  have nch:c∉ch:=fun z=>(hch c z).2.2.1 x c e rfl
  by_cases hc:c∈X.fs
  ·obtain ⟨sl,q⟩:=slot c o (I.cne x c e) hc nch ho (I.freeC x c e)
   exact ⟨_,q,hd⟩
  ·exact ⟨o,keep c o (I.cne x c e) hc nch ho (I.freeC x c e),hd⟩
 refine ⟨I.ok,I.os,hg,⟨fun b o e n hb hx=>?_,fun b o e n hb hx=>?_,fun b o e n hx=>?_,fun b o e hx=>?_,fun b xs e=>tups b xs (I.base.tups b xs e),fun b o xs e=>frzs b o xs (I.base.frzs b o xs e),fun b ps e=>?_⟩,?_,fun x c e=>?_,?_,fun x c e=>?_,fun p hp=>?_,hok,I.len⟩
 ·exact keep b o (neL b o e) hb (neC b o e hx) (I.base.keep b o e n hb hx) (I.base.free b o e n hx)
 ·obtain ⟨sl,e1⟩:=I.base.slot b o e n hb hx
  obtain ⟨sl',e2⟩:=slot b _ (neL b o e) hb (neC b o e hx) e1 (I.base.free b o e n hx)
  exact ⟨sl',e2⟩
 ·obtain ⟨o',e1⟩:=I.base.there b o e hx
  exact free b o' (neC b o e hx) e1 (I.base.free b o e n hx)
 ·obtain ⟨o',e1⟩:=I.base.there b o e hx
  exact there b o' (neC b o e hx) e1
 ·obtain ⟨m1,e1⟩:=I.base.tbls b ps e
  obtain ⟨m2,e2⟩:=tbls b _ e1
  exact ⟨m1++m2,by rw [e2,Array.append_assoc]⟩
 ·obtain ⟨m,hn,hl⟩:=I.loc
  refine ⟨m,ns m hn,fun i x v e1 e2 e3=>?_⟩
  obtain ⟨u,r,l⟩:=hl i x v e1 e2 e3
  refine ⟨u,r,?_⟩
  rcases l with l | ⟨k,c,e,z⟩
  ·exact .inl l
  ·exact .inr ⟨k,c,e,cellK x c e _ z⟩
 ·obtain ⟨v,z⟩:=I.cell x c e
  exact ⟨v,cellK x c e v z⟩
 ·obtain ⟨m,⟨o,_,_,ho,_⟩,_⟩:=I.loc
  exact free _ o (fun z=>(hch _ z).2.1 rfl) ho I.free
 ·obtain ⟨v,o,ho,hd⟩:=I.cell x c e
  exact free c o (fun z=>(hch c z).2.2.1 x c e rfl) ho (I.freeC x c e)
 ·obtain ⟨e,n,ne,nf,d⟩:=I.pin p hp
  have nch:p.1∉ch:=fun z=>(hch p.1 z).2.2.2 p hp rfl
  exact ⟨keep p.1 p.2 ne nf nch e n,free p.1 p.2 nch e n,ne,nf,d⟩
theorem Inv.un {t':Nat} (I:Inv X pins σ H s) (u:Un X.fs [] H H' s.heap h') (hok:HOk X.prog X.w H' h'):Inv X pins σ H' { s with heap:=h',toks:=t' }:=by
 obtain ⟨m,⟨o,es,ep,ho,r⟩,_⟩:=id I.loc
 obtain ⟨sl,hL⟩:=u.any ho I.free (by simp)
 exact I.step (g':=s.gens) (d':=s.drawn) (ch:=[]) (fun _ z=>nomatch z) (fun b o _ hb _ e n=>u.keep b o e n hb (by simp)) (fun b o _ hb _ e n=>u.slot b o e n hb (by simp)) (fun b o _ e n=>u.free b o e n (by simp)) (fun b o _ e=>u.there b o e (by simp)) u.tups u.frzs u.tbls (fun m' hm=>by
  obtain ⟨o',es',ep',ho',r'⟩:=hm
  rw [ho] at ho'; cases ho'
  exact ⟨_,es',ep',hL,r'⟩) hok I.bare
theorem Inv.call {g':Array GenState}{t':Nat}{d':Drawn}{ch:List Addr} (I:Inv X pins σ H s) (u:Un (frs X.stack) ch H H' s.heap h') (hok:HOk X.prog X.w H' h') (hg:AllBare g')
  (hch:∀ b∈ch,(b∈X.ex∨X.s₀.heap.objs.size≤b)∧b≠X.env.locals∧(∀ x c,X.env.cells.lookup x=some c→c≠b)∧∀ p∈X.pn++pins,p.1≠b) :
  Inv X pins σ H' { s with heap:=h',gens:=g',drawn:=d',toks:=t' }:=by
 obtain ⟨m,⟨o,es,ep,ho,r⟩,_⟩:=id I.loc
 obtain ⟨sl,hL⟩:=u.any ho I.free fun z=>(hch _ z).2.1 rfl
 exact I.step (ch:=ch) hch (fun b o hL hb hc e n=>u.keep b o e n (fun z=>(qB9.mp (I.stkSub b z)).elim hL hb) hc) (fun b o _ _ hc e n=>u.any e n hc) (fun b o hc e n=>u.free b o e n hc) (fun b o hc e=>u.there b o e hc) u.tups u.frzs u.tbls (fun m' hm=>by
  obtain ⟨o',es',ep',ho',r'⟩:=hm
  rw [ho] at ho'; cases ho'
  exact ⟨_,es',ep',hL,r'⟩) hok hg
theorem Inv.turned {t':Nat}{it:Addr} (I:Inv X pins σ H s) (k:∀ b o,b≠it→s.heap.get? b=some o→h'.get? b=some o) (hn:H it=none) (hL:it≠X.env.locals)
  (h1:it∈X.ex∨X.s₀.heap.objs.size≤it) (h2:∀ x c,X.env.cells.lookup x=some c→c≠it) (h3:∀ p∈X.pn++pins,p.1≠it):Inv X pins σ H { s with heap:=h',toks:=t' }:=by
 have nit:∀ b u,H b=some u→b≠it:=fun b u e z=>by rw [z,hn] at e; cases e
 refine I.step (g':=s.gens) (d':=s.drawn) (ch:=[it]) (fun b hb=>?_) (fun b o _ _ hc e _=>k b o (fun z=>hc (by simp [z])) e) (fun b o _ _ hc e _=>⟨o.slots,k b o (fun z=>hc (by simp [z])) e⟩) (fun _ _ _ _ n=>n)
  (fun b o hc e=>⟨o,k b o (fun z=>hc (by simp [z])) e⟩) (fun _ _ e=>e) (fun _ _ _ e=>e) (fun b ps e=>⟨#[],by rw [e]; simp⟩) (fun m hm=>?_) (fun b u e=>?_) I.bare
 ·have e:b=it:=by simpa using hb
  subst e
  exact ⟨h1,hL,h2,h3⟩
 ·obtain ⟨o,es,ep,ho,r⟩:=hm
  exact ⟨o,es,ep,k _ o (Ne.symm hL) ho,r⟩
 ·refine (I.hok b u e).stay (fun c v hc q=>k c v ?_ q) (fun _ q=>q) fun _ _ q=>q
  rcases hc with z | z
  ·rw [z]; exact nit b u e
  ·exact nit c _ z
theorem Inv.tok (I:Inv X pins σ H s) (t:Nat):Inv X pins σ H { s with toks:=t }:=I.un (h':=s.heap) (t':=t) Un.refl I.hok
theorem Inv.kept {t':Nat} (I:Inv X pins σ H s) (k:∀ b u,s.heap.get? b=some u→h'.get? b=some u):Inv X pins σ H { s with heap:=h',toks:=t' }:=I.un (Un.kept k) (I.hok.kept k)
theorem Inv.laid {a:Addr}{o:HO}{t':Nat} (I:Inv X pins σ H s) (k:∀ b u,s.heap.get? b=some u→h'.get? b=some u) (hp:s.heap.objs.size≤a) (new:zBL X.prog X.w (upd H a o) h' a o) :
  Inv X pins σ (upd H a o) { s with heap:=h',toks:=t' }:=I.un (Un.laid k hp (I.hok.fresh hp)) (I.hok.laid k hp new)
theorem Inv.write {x e:Addr}{o:HO}{t':Nat} (I:Inv X pins σ H s) (mu:Mut (H x)) (he:e=x∨H e=some (.own x)) (k:∀ b u,b≠e→s.heap.get? b=some u→h'.get? b=some u) (heo:∃ u,h'.get? e=some u)
  (new:zBL X.prog X.w (upd H x o) h' x o):Inv X pins σ (upd H x o) { s with heap:=h',toks:=t' }:=I.un (Un.write mu he k heo) (I.hok.write mu he k heo new)
theorem Inv.weak {σ':List (Option V)} (I:Inv X pins σ H s) (hl:σ'.length=σ.length) (w:∀ (i:Nat) v,σ'[i]?=some (some v)→σ[i]?=some (some v)):Inv X pins σ' H s :=
 ⟨I.ok,I.os,I.bare,I.base,let ⟨m,hn,hl'⟩:=I.loc; ⟨m,hn,fun i x v e1 e2 e3=>hl' i x v e1 (w i v e2) e3⟩,I.cell,I.free,I.freeC,I.pin,I.hok,hl.trans I.len⟩
theorem Inv.pins_of {pins':List (Addr × Obj)} (I:Inv X pins σ H s) (h:∀ p∈pins',s.heap.get? p.1=some p.2∧H p.1=none∧p.1≠X.env.locals∧p.1∉X.fs∧∀ v,p.2.data≠.cell v):Inv X pins' σ H s :=
 ⟨I.ok,I.os,I.bare,I.base,I.loc,I.cell,I.free,I.freeC,fun p hp=>(qB3.mp hp).elim (fun z=>I.pin p (qD5 _ z)) (h p),I.hok,I.len⟩
theorem zKh {N:List Str} (hN:N.Nodup) {i j:Nat}{x:Str} (a:N[i]?=some x) (b:N[j]?=some x):i=j:=by
 obtain ⟨h1,e1⟩:=qA1.mp a
 obtain ⟨h2,e2⟩:=qA1.mp b
 exact (List.getElem_inj hN).mp (e1.trans e2.symm)
theorem zMc {M:Model}{A:Around}{E:Value→Shared→Prop}{i:Nat}{x:Str}{v:V}{u:Value}{Q:Unit→Shared→Prop} (I:Inv X pins σ H s) (hN:X.N.Nodup) (hi:X.N[i]?=some x) (hx:Loc X.env.scope x) (r:RelV v u)
  (h:∀ s',Inv X pins (σ.set i (some v)) H s'→(∃ a,qE2 a s.heap s'.heap∧(a=X.env.locals∨X.env.cells.lookup x=some a))→Q () s') (hf:X.fn x=true∨X.env.scope.names.lookup x=some .local:=by first | exact .inl rfl | exact .inr rfl | assumption):wpAny M A (storeName X.env x u) Q E s:=by
 obtain ⟨m,hn,hl⟩:=id I.loc
 have hcls:(X.env.scope.kind == .class||(X.env.scope.kind == .module&&X.env.locals != X.env.globals))=false:=by rw [I.ok.kind]; rfl
 have hiσ:i<σ.length:=by rw [I.len]; exact (qA1.mp hi).1
 have cne:=I.cne
 have tracked:∀ {a:Addr}{h':Heap},(∃ o,s.heap.get? a=some o∧H a=none)→qE2 a s.heap h'→HOk X.prog X.w H h':=fun {a h'} ha hs b ob e=>by
  obtain ⟨_,_,hfree⟩:=ha
  refine (I.hok b ob e).stay (fun c w' hc q=>(hs.2 c ?_).trans q) (fun _ q=>q) fun _ _ q=>q
  rintro rfl
  rcases hc with rfl | hc
  ·rw [hfree] at e; cases e
  ·rw [hfree] at hc; cases hc
 rcases hx with hk | hk
 ·refine wpAny_storeName_local hk hn (fun h' hn' hs=>?_) hcls
  obtain ⟨oL,_,_,hoL,_⟩:=id hn
  refine h _ ⟨I.ok,I.os,I.bare,⟨fun b o e n hb hx=>?_,fun b o e n hb hx=>?_,I.base.free,fun b o e hx=>?_,I.base.tups,I.base.frzs,I.base.tbls⟩,⟨_,hn',fun j y v' e1 e2 e3=>?_⟩,fun y c e=>?_,I.free,I.freeC,fun p hp=>?_,tracked ⟨oL,hoL,I.free⟩ hs,by simpa using I.len⟩ ⟨_,hs,.inl rfl⟩
  ·exact (hs.2 b (qC7 (qC3 (qB6 e) I.ok.above))).trans (I.base.keep b o e n hb hx)
  ·obtain ⟨sl,e1⟩:=I.base.slot b o e n hb hx
   exact ⟨sl,(hs.2 b (qC7 (qC3 (qB6 e) I.ok.above))).trans e1⟩
  ·obtain ⟨o',e1⟩:=I.base.there b o e hx
   exact ⟨o',(hs.2 b (qC7 (qC3 (qB6 e) I.ok.above))).trans e1⟩
  ·by_cases hj:j=i
   ·subst hj
    rw [hi] at e1; cases e1
    rw [qD7 hiσ] at e2
    cases e2
    exact ⟨u,r,.inl ⟨hk,by simp⟩⟩
   ·rw [qE8 (Ne.symm hj)] at e2
    obtain ⟨u',r',q⟩:=hl j y v' e1 e2 e3
    refine ⟨u',r',?_⟩
    rcases q with ⟨k,e⟩ | ⟨k,c,e,z⟩
    ·refine .inl ⟨k,?_⟩
     have:y≠x:=fun e=>hj (zKh hN e1 (e▸hi))
     simp [this,e]
    ·exact .inr ⟨k,c,e,z.sameBut hs (cne y c e)⟩
  ·obtain ⟨w',z⟩:=I.cell y c e
   exact ⟨w',z.sameBut hs (cne y c e)⟩
  ·obtain ⟨e,n,ne,nf,d⟩:=I.pin p hp
   exact ⟨(hs.2 p.1 ne).trans e,n,ne,nf,d⟩
 ·have hfn:X.fn x=true:=by
   rcases hf with z | z
   ·exact z
   ·rw [z] at hk; cases hk
  obtain ⟨c,hc⟩:=I.ok.has x (.inl hk)
  obtain ⟨w',z⟩:=I.cell x c hc
  refine wpAny_storeName_cell I.ok.kind hk hc z (fun h' hc' hs=>?_)
  obtain ⟨oc,hoc,hocd⟩:=id z
  refine h { s with heap:=h' } ⟨I.ok,I.os,I.bare,⟨fun b o e n hb hx=>?_,fun b o e n hb hx=>?_,I.base.free,fun b o e hx=>?_,I.base.tups,I.base.frzs,I.base.tbls⟩,⟨m,hn.sameBut hs (Ne.symm (cne x c hc)),fun j y v' e1 e2 e3=>?_⟩,fun y c' e=>?_,I.free,I.freeC,fun p hp=>?_,tracked ⟨oc,hoc,I.freeC x c hc⟩ hs,by simpa using I.len⟩ ⟨c,hs,.inr hc⟩
  ·exact (hs.2 b (qC7 (qC3 (qB6 e) (I.ok.cab x c hfn hc)))).trans (I.base.keep b o e n hb hx)
  ·obtain ⟨sl,e1⟩:=I.base.slot b o e n hb hx
   exact ⟨sl,(hs.2 b (qC7 (qC3 (qB6 e) (I.ok.cab x c hfn hc)))).trans e1⟩
  ·obtain ⟨o',e1⟩:=I.base.there b o e hx
   exact ⟨o',(hs.2 b (qC7 (qC3 (qB6 e) (I.ok.cab x c hfn hc)))).trans e1⟩
  ·by_cases hj:j=i
   ·subst hj
    rw [hi] at e1; cases e1
    rw [qD7 hiσ] at e2
    cases e2
    exact ⟨u,r,.inr ⟨.inl hk,c,hc,hc'⟩⟩
   ·rw [qE8 (Ne.symm hj)] at e2
    obtain ⟨u',r',q⟩:=hl j y v' e1 e2 e3
    refine ⟨u',r',?_⟩
    rcases q with q | ⟨k,c',e,z'⟩
    ·exact .inl q
    ·refine .inr ⟨k,c',e,z'.sameBut hs ?_⟩
     rintro rfl
     exact hj (zKh hN e1 (I.ok.inj _ _ _ e hc▸hi))
  ·by_cases hcc:c'=c
   ·subst hcc; exact ⟨_,hc'⟩
   ·obtain ⟨w2,z2⟩:=I.cell y c' e
    exact ⟨w2,z2.sameBut hs hcc⟩
  ·obtain ⟨e,n,ne,nf,d⟩:=I.pin p hp
   refine ⟨(hs.2 p.1 ?_).trans e,n,ne,nf,d⟩
   intro q
   rw [q,hoc] at e
   have q':oc=p.2:=Option.some.inj e
   exact d w' (by rw [← q']; exact hocd)
theorem zOp {M:Model}{A:Around}{E:Value→Shared→Prop}{i:Nat}{x:Str}{v:V}{u:Value}{Q:Unit→Shared→Prop} (I:Inv X pins σ H s) (hN:X.N.Nodup) (hi:X.N[i]?=some x) (hx:Loc X.env.scope x) (r:RelV v u)
  (h:∀ s',Inv X pins (σ.set i (some v)) H s'→Q () s') (hf:X.fn x=true∨X.env.scope.names.lookup x=some .local:=by first | exact .inl rfl | exact .inr rfl | assumption):wpAny M A (storeName X.env x u) Q E s :=
 zMc I hN hi hx r (fun s' I' _=>h s' I') hf
theorem Inv.call' {s':Shared}{ch:List Addr} (I:Inv X pins σ H s) (ho:s'.os=s.os) (u:Un (frs X.stack) ch H H' s.heap s'.heap) (hok:HOk X.prog X.w H' s'.heap) (hg:AllBare s'.gens)
  (hch:∀ b∈ch,(b∈X.ex∨X.s₀.heap.objs.size≤b)∧b≠X.env.locals∧(∀ x c,X.env.cells.lookup x=some c→c≠b)∧∀ p∈X.pn++pins,p.1≠b):Inv X pins σ H' s':=by
 obtain ⟨h',g',d',t',o'⟩:=s'
 have e:o'=s.os:=ho
 subst e
 exact I.call (g':=g') (t':=t') (d':=d') u hok hg hch
end
noncomputable abbrev XK:=Value→Option Addr→Hp→Prop
noncomputable abbrev St:=List (Option V)
noncomputable abbrev VK:=V→Hp→Prop
noncomputable abbrev TE:=St→Hp→VK→Prop
noncomputable abbrev TT:=St→Hp→(Bool→Hp→Prop)→Prop
noncomputable abbrev TA:=St→Hp→(List V→Hp→Prop)→Prop
structure Ends where
 nx:St→Hp→Prop
 rt:VK
 bk:St→Hp→Prop:=fun _ _=>False
 ct:St→Hp→Prop:=fun _ _=>False
noncomputable abbrev TS:=Ends→St→Hp→Prop
inductive EP (X:Cx) (pins:List (Addr × Obj)) (σ:St) (Q:VK) (u:Value) (s':Shared):Prop
 | mk (v:V) (H':Hp) (I:Inv X pins σ H' s') (r:RelV v u) (q:Q v H')
inductive TP (X:Cx) (pins:List (Addr × Obj)) (σ:St) (Q:Bool→Hp→Prop) (b:Bool) (s':Shared):Prop
 | mk (H':Hp) (I:Inv X pins σ H' s') (q:Q b H')
inductive AP (X:Cx) (pins:List (Addr × Obj)) (σ:St) (Q:List V→Hp→Prop) (us:List Value) (s':Shared):Prop
 | mk (vs:List V) (H':Hp) (I:Inv X pins σ H' s') (r:Vals vs us) (q:Q vs H')
def SP (X:Cx) (pins:List (Addr × Obj)) (D:Ends) (f:Flow) (s':Shared):Prop :=
 match f with
 | .next=>∃ σ' H',Inv X pins σ' H' s'∧D.nx σ' H'
 | .brk=>∃ σ' H',Inv X pins σ' H' s'∧D.bk σ' H'
 | .cont=>∃ σ' H',Inv X pins σ' H' s'∧D.ct σ' H'
 | .ret u=>∃ v σ' H',Inv X pins σ' H' s'∧RelV v u∧D.rt v H'
def PE (X:Cx) (e:Expr) (t:TE):Prop :=
 ∀ (pins:List (Addr × Obj)) (s:Shared) (σ:St) (H:Hp) (Q:VK),Inv X pins σ H s→t σ H Q→wpAny (model X.prog X.w) X.A (eval e X.env) (EP X pins σ Q) X.xe s
def PT (X:Cx) (e:Expr) (t:TT):Prop :=
 ∀ (pins:List (Addr × Obj)) (s:Shared) (σ:St) (H:Hp) (Q:Bool→Hp→Prop),Inv X pins σ H s→t σ H Q→wpAny (model X.prog X.w) X.A (isTrue e X.env (eval e X.env)) (TP X pins σ Q) X.xe s
def PW (X:Cx) (e:Expr) (t:TT):Prop :=
 ∀ (whole:Sem Value) (pins:List (Addr × Obj)) (s:Shared) (σ:St) (H:Hp) (Q:Bool→Hp→Prop),Inv X pins σ H s→t σ H Q→wpAny (model X.prog X.w) X.A (isTrue e X.env whole) (TP X pins σ Q) X.xe s
theorem PW.pt {X:Cx}{e:Expr}{t:TT} (h:PW X e t):PT X e t:=h _
def PA (X:Cx) (es:List Expr) (t:TA):Prop :=
 ∀ (pos:Pos) (pins:List (Addr × Obj)) (s:Shared) (σ:St) (H:Hp) (Q:List V→Hp→Prop),Inv X pins σ H s→t σ H Q→wpAny (model X.prog X.w) X.A (spliced (backTo pos (starEach es X.env))) (AP X pins σ Q) X.xe s
def PS (X:Cx) (st:Stmt) (t:TS):Prop :=
 ∀ (pins:List (Addr × Obj)) (s:Shared) (σ:St) (H:Hp) (D:Ends),Inv X pins σ H s→t D σ H→wpAny (model X.prog X.w) X.A (exec st X.env) (SP X pins D) X.xe s
def PSs (X:Cx) (st:List Stmt) (t:TS):Prop :=
 ∀ (pins:List (Addr × Obj)) (s:Shared) (σ:St) (H:Hp) (D:Ends),Inv X pins σ H s→t D σ H→wpAny (model X.prog X.w) X.A (execs st X.env) (SP X pins D) X.xe s
theorem thn {α:Type}{t:Sem α}{Q Q':α→Shared→Prop}{M:Model}{A:Around}{E:Value→Shared→Prop}{s:Shared} (h:wpAny M A t Q E s) (hQ:∀ a s,Q a s→Q' a s):wpAny M A t Q' E s:=wpAny_mono h hQ fun _ _ x=>x
section
variable {X:Cx}
noncomputable def tVar (i:Nat):TE:=fun σ H Q=>∃ v,σ[i]?=some (some v)∧Q v H
noncomputable def tC (v:V):TE:=fun _ H Q=>Q v H
theorem zTs {i:Nat}{x:Str}{pos:Pos} (hN:X.N[i]?=some x) (hv:Vis X.env.scope x) (hd:(x == ("__debug__":Str))=false:=by decide) (hcd:(x == ("__classdict__":Str))=false:=by decide):PE X (.Name x pos) (tVar i):=by
 intro pins s σ H Q I h
 obtain ⟨v,e,h⟩:=h
 obtain ⟨m,hn,hl⟩:=I.loc
 obtain ⟨u,r,l⟩:=hl i x v hN e hv
 have fin:EP X pins σ Q u s:=⟨v,H,I,r,h⟩
 rcases l with ⟨hk,hm⟩ | ⟨hk,c,hc,hcell⟩
 ·exact wpAny_Name (wpAny_loadName_local I.ok.kind hk hn hm fin) hd
 ·rcases hk with hk | hk
  ·exact wpAny_Name (wpAny_loadName_cell I.ok.kind hk hc hcell fin) hd
  ·exact wpAny_Name (wpAny_loadName_free I.ok.kind hk hc hcell fin hcd) hd
theorem zTz {i j pos}:PE X (.Constant (.int i) j pos) (tC (.int i)):=fun _ _ _ H _ I h=>wpAny_Constant_int ⟨.int i,H,I.tok _,⟨_,rfl⟩,h⟩
theorem zWp {b j pos}:PE X (.Constant (.bool b) j pos) (tC (.bl b)):=fun _ _ _ H _ I h=>Constant_bool ⟨.bl b,H,I,rfl,h⟩
theorem zTx {j pos}:PE X (.Constant .none j pos) (tC .non):=fun _ _ _ H _ I h=>Constant_none ⟨.non,H,I,rfl,h⟩
theorem zTu {x j pos}:PE X (.Constant (.str x) j pos) (tC (.str x)):=fun _ _ _ H _ I h=>Calls.Constant_str ⟨.str x,H,I.tok _,⟨_,rfl⟩,h⟩
def Gl (X:Cx) (x:Str):Prop:=X.env.kindOf x=some .globalImplicit
theorem zRM {E:Value→Shared→Prop}{pins:List (Addr × Obj)}{s:Shared}{σ:St}{H:Hp}{x:Str}{u:Value}{pos:Pos}{Q:Value→Shared→Prop} (I:Inv X pins σ H s) (hg:Gl X x) (hm:X.mg x=some u) (h:Q u s)
  (hd:(x == ("__debug__":Str))=false:=by decide):wpAny (model X.prog X.w) X.A (eval (.Name x pos) X.env) Q E s :=
 Calls.Name_function_global I.ok.kind hg (Calls.loadGlobal_global (by rw [I.ok.glob]; exact I.mod.glob.keeps I.bk) hm h) hd
theorem zF8 {E:Value→Shared→Prop}{pins:List (Addr × Obj)}{s:Shared}{σ:St}{H:Hp}{x:Str}{u:Value}{pos:Pos}{Q:Value→Shared→Prop} (I:Inv X pins σ H s) (hg:Gl X x) (hm:X.mg x=none) (hv:bootBuiltins x=some u) (h:Q u s)
  (hn:x ≠ "__name__":=by decide) (hd:(x == ("__debug__":Str))=false:=by decide):wpAny (model X.prog X.w) X.A (eval (.Name x pos) X.env) Q E s:=by
 obtain ⟨mb,h1,h2⟩:=I.mod.blt
 exact Calls.Name_function_global I.ok.kind hg (Calls.loadGlobal_builtin (by rw [I.ok.glob]; exact I.mod.glob.keeps I.bk) hm (by rw [I.ok.blt]; exact h1.keeps I.bk) ((h2 x hn).trans hv) h) hd
theorem zRn {x:Str}{v:V}{u:Value}{pos:Pos} (hg:Gl X x) (hm:X.mg x=none) (hv:bootBuiltins x=some u) (r:RelV v u) (hn:x ≠ "__name__":=by decide) (hd:(x == ("__debug__":Str))=false:=by decide):PE X (.Name x pos) (tC v) :=
 fun _ _ _ H _ I h=>zF8 I hg hm hv ⟨v,H,I,r,h⟩ hn hd
variable {a b:Expr}{ta tb:TE}{pos:Pos}
variable {tA tB':TT}{rest:List Expr}
noncomputable def tAnd (t u:TT):TT:=fun σ H Q=>t σ H fun c H1=>if c=true then u σ H1 Q else Q false H1
noncomputable def tOr (t u:TT):TT:=fun σ H Q=>t σ H fun c H1=>if c=true then Q true H1 else u σ H1 Q
noncomputable def tNot (t:TT):TT:=fun σ H Q=>t σ H fun c H1=>Q (!c) H1
theorem zR5 (ha:PT X a tA):PW X (.BoolOp .And [a] pos) tA:=by
 intro wh pins s σ H Q I h
 refine isTrue_and (thn (ha pins s σ H Q I h) fun c s1 e=>?_)
 cases c with
 | true=>exact isTrue_and_nil e
 | false=>exact e
theorem zTj (ha:PT X a tA):PW X (.BoolOp .Or [a] pos) tA:=by
 intro wh pins s σ H Q I h
 refine isTrue_or (thn (ha pins s σ H Q I h) fun c s1 e=>?_)
 cases c with
 | false=>exact isTrue_or_nil e
 | true=>exact e
theorem zTk (ha:PT X a tA) (hb:PW X (.BoolOp .And (b::rest) pos) tB'):PW X (.BoolOp .And (a::b::rest) pos) (tAnd tA tB'):=by
 intro wh pins s σ H Q I h
 refine isTrue_and (thn (ha pins s σ H _ I h) fun c s1 ⟨H1,I1,q1⟩=>?_)
 cases c with
 | true=>exact hb wh pins s1 σ H1 Q I1 q1
 | false=>exact ⟨H1,I1,q1⟩
theorem zWi (ha:PT X a tA) (hb:PW X (.BoolOp .Or (b::rest) pos) tB'):PW X (.BoolOp .Or (a::b::rest) pos) (tOr tA tB'):=by
 intro wh pins s σ H Q I h
 refine isTrue_or (thn (ha pins s σ H _ I h) fun c s1 ⟨H1,I1,q1⟩=>?_)
 cases c with
 | true=>exact ⟨H1,I1,q1⟩
 | false=>exact hb wh pins s1 σ H1 Q I1 q1
theorem zTl (ha:PT X a tA):PT X (.UnaryOp .Not a pos) (tNot tA):=by
 intro pins s σ H Q I h
 exact isTrue_not (thn (ha pins s σ H (fun c H1=>Q (!c) H1) I h) fun c s' ⟨H',I',q⟩=>⟨H',I',q⟩)
noncomputable def zW0 (ta tb:TE):TE:=fun σ H Q=>ta σ H fun x H1=>∃ c,x=.bl c∧if c=true then tb σ H1 Q else Q (.bl false) H1
noncomputable def tOrV (ta tb:TE):TE:=fun σ H Q=>ta σ H fun x H1=>∃ c,x=.bl c∧if c=true then Q (.bl true) H1 else tb σ H1 Q
noncomputable def zVV (ta:TE):TE:=fun σ H Q=>ta σ H fun x H1=>∃ c,x=.bl c∧Q (.bl (!c)) H1
theorem zTv {op}{t:TE} (h:PE X a t):PE X (.BoolOp op [a] pos) t:=fun pins s σ H Q I hw=>BoolOp_one (h pins s σ H Q I hw)
theorem zTB (ha:PE X a ta) (hb:PE X (.BoolOp .And (b::rest) pos) tb):PE X (.BoolOp .And (a::b::rest) pos) (zW0 ta tb):=by
 intro pins s σ H Q I h
 refine BoolOp_and (thn (ha pins s σ H _ I h) fun v s1 ⟨x,H1,I1,r1,q1⟩=>?_)
 obtain ⟨c,rfl,q1⟩:=q1
 cases r1
 refine wpAny_truthy_bool ?_
 cases c with
 | true=>exact hb pins s1 σ H1 Q I1 q1
 | false=>exact ⟨.bl false,H1,I1,rfl,q1⟩
theorem zWl (ha:PE X a ta) (hb:PE X (.BoolOp .Or (b::rest) pos) tb):PE X (.BoolOp .Or (a::b::rest) pos) (tOrV ta tb):=by
 intro pins s σ H Q I h
 refine BoolOp_or (thn (ha pins s σ H _ I h) fun v s1 ⟨x,H1,I1,r1,q1⟩=>?_)
 obtain ⟨c,rfl,q1⟩:=q1
 cases r1
 refine wpAny_truthy_bool ?_
 cases c with
 | false=>exact hb pins s1 σ H1 Q I1 q1
 | true=>exact ⟨.bl true,H1,I1,rfl,q1⟩
theorem zTw (ha:PE X a ta):PE X (.UnaryOp .Not a pos) (zVV ta):=by
 intro pins s σ H Q I h
 refine UnaryOp_ (thn (ha pins s σ H _ I h) fun v s1 ⟨x,H1,I1,r1,q1⟩=>?_)
 obtain ⟨c,rfl,q1⟩:=q1
 cases r1
 exact not_of (wpAny_truthy_bool ⟨.bl (!c),H1,I1,rfl,q1⟩)
noncomputable def tIf (t:TT) (ta tb:TE):TE:=fun σ H Q=>t σ H fun c H1=>if c=true then ta σ H1 Q else tb σ H1 Q
theorem zOU {c:Expr} (hc:PT X c tA) (ha:PE X a ta) (hb:PE X b tb):PE X (.IfExp c a b pos) (tIf tA ta tb):=by
 intro pins s σ H Q I h
 refine wpAny_IfExp (thn (hc pins s σ H _ I h) fun d s1 ⟨H1,I1,q1⟩=>?_)
 cases d with
 | true=>exact ha pins s1 σ H1 Q I1 q1
 | false=>exact hb pins s1 σ H1 Q I1 q1
end
def SqL (K:W.Frag) (H:Hp) (a:Addr) (xs:List V):Prop :=
 Rd H a (.lst xs) ∨
  ∃ (o:Obj) (its:Array Value) (n:Nat),K.lookup a=some o∧o.cls=.type "list"∧o.dict=none∧o.data=.seq its n∧its.size≤sizeLine∧Vals xs its.toList
def SqT (K:W.Frag) (H:Hp) (a:Addr) (xs:List V):Prop :=
 Rd H a (.tup xs) ∨
  ∃ (o:Obj) (its:Array Value) (n:Nat),K.lookup a=some o∧o.cls=.type "tuple"∧o.data=.seq its n∧its.size≤sizeLine∧Vals xs its.toList
noncomputable def absV:Value→Option V
 | .none=>some .non
 | .bool b=>some (.bl b)
 | .int i _=>some (.int i)
 | .str x _=>some (.str x)
 | .bytes b _=>some (.byt b)
 | .float b _=>some (.flt b)
 | .ref a=>some (.ref a)
 | .type n=>some (.ty n)
 | _=>none
theorem RelV.abs {x:V}{u:Value} (r:RelV x u):absV u=some x:=by
 cases x with
 | non=>cases r; rfl
 | bl _=>cases r; rfl
 | int _=>obtain ⟨t,rfl⟩:=r; rfl
 | str _=>obtain ⟨t,rfl⟩:=r; rfl
 | byt _=>obtain ⟨t,rfl⟩:=r; rfl
 | flt _=>obtain ⟨t,rfl⟩:=r; rfl
 | ref _=>cases r; rfl
 | ty _=>cases r; rfl
theorem RelV.inj {x y:V}{u:Value} (r:RelV x u) (q:RelV y u):x=y:=Option.some.inj (r.abs.symm.trans q.abs)
theorem Vals.inj:∀ {xs ys:List V}{us:List Value},Vals xs us→Vals ys us→xs=ys
 | _,_,_,.nil,.nil=>rfl
 | _,_,_,.cons r t,.cons r' t'=>by rw [r.inj r',Vals.inj t t']
section
variable {X:Cx}{pins:List (Addr × Obj)}{σ:St}{H:Hp}{s:Shared}{a:Addr}{xs ys:List V}
theorem SqL.of {K:W.Frag} (h:H a=some (.lst xs)):SqL K H a xs:=.inl (.inl h)
theorem SqT.of {K:W.Frag} (h:H a=some (.tup xs)):SqT K H a xs:=.inl (.inl h)
theorem Inv.list (I:Inv X pins σ H s) (h:SqL X.K H a xs):∃ its:List Value,Vals xs its∧PlainL s.heap a its.toArray∧xs.length≤sizeLine:=by
 rcases h with h | ⟨o,its,n,hk,hc,hd,hs,hz,r⟩
 ·obtain ⟨z,its,n,r,e⟩:=h.ok I.hok
  exact ⟨its,r,⟨_,n,e,rfl,rfl,rfl⟩,z⟩
 ·refine ⟨its.toList,r,⟨o,n,I.kIn a o hk,hc,hd,by simpa using hs⟩,?_⟩
  have e:=r.length
  simp only [Array.length_toList] at e
  omega
theorem Inv.tuple (I:Inv X pins σ H s) (h:SqT X.K H a xs):∃ its:List Value,Vals xs its∧IsTup s.heap a its.toArray∧xs.length≤sizeLine:=by
 rcases h with h | ⟨o,its,n,hk,hc,hs,hz,r⟩
 ·obtain ⟨z,its,r,p⟩:=h.ok I.hok
  exact ⟨its,r,p,z⟩
 ·refine ⟨its.toList,r,⟨o,I.kIn a o hk,hc,n,by simpa using hs⟩,?_⟩
  have e:=r.length
  simp only [Array.length_toList] at e
  omega
theorem Inv.list_inj (I:Inv X pins σ H s) (h:SqL X.K H a xs) (h':SqL X.K H a ys):xs=ys:=by
 obtain ⟨its,r,⟨o,n,e,_,_,d⟩,_⟩:=I.list h
 obtain ⟨its',r',⟨o',n',e',_,_,d'⟩,_⟩:=I.list h'
 rw [e] at e'; cases e'
 rw [d] at d'
 injection d' with d1 _
 have:its=its':=by simpa using congrArg Array.toList d1
 subst this
 exact r.inj r'
theorem Inv.tuple_inj (I:Inv X pins σ H s) (h:SqT X.K H a xs) (h':SqT X.K H a ys):xs=ys:=by
 obtain ⟨its,r,⟨o,e,_,n,d⟩,_⟩:=I.tuple h
 obtain ⟨its',r',⟨o',e',_,n',d'⟩,_⟩:=I.tuple h'
 rw [e] at e'; cases e'
 rw [d] at d'
 injection d' with d1 _
 have:its=its':=by simpa using congrArg Array.toList d1
 subst this
 exact r.inj r'
end
noncomputable abbrev Cx.wish (X:Cx) (E:Value→Shared→Prop):Cx:={ X with xe:=E }
noncomputable abbrev Cx.nox (X:Cx):Cx:=X.wish fun _ _=>False
theorem Cx.Ok.wish {X:Cx} (ok:X.Ok) (E:Value→Shared→Prop):(X.wish E).Ok :=
 ⟨ok.mod,ok.kind,ok.glob,ok.blt,ok.above,ok.inj,ok.has,ok.cab,ok.hd,ok.frames,ok.stk,ok.exf,ok.bs,ok.bsz,ok.noex,ok.exfs,ok.funs,ok.frf⟩
theorem Cx.Ok.unwish {X:Cx}{E:Value→Shared→Prop} (ok:(X.wish E).Ok):X.Ok :=
 ⟨ok.mod,ok.kind,ok.glob,ok.blt,ok.above,ok.inj,ok.has,ok.cab,ok.hd,ok.frames,ok.stk,ok.exf,ok.bs,ok.bsz,ok.noex,ok.exfs,ok.funs,ok.frf⟩
section
variable {X:Cx}{pins:List (Addr × Obj)}{σ:St}{H:Hp}{s:Shared}{E:Value→Shared→Prop}
theorem Inv.wish (I:Inv X pins σ H s) (E:Value→Shared→Prop):Inv (X.wish E) pins σ H s:=⟨I.ok.wish E,I.os,I.bare,I.base,I.loc,I.cell,I.free,I.freeC,I.pin,I.hok,I.len⟩
theorem Inv.unwish (I:Inv (X.wish E) pins σ H s):Inv X pins σ H s:=⟨I.ok.unwish,I.os,I.bare,I.base,I.loc,I.cell,I.free,I.freeC,I.pin,I.hok,I.len⟩
theorem SP.unwish {D:Ends}{f:Flow}{s':Shared} (h:SP (X.wish E) pins D f s'):SP X pins D f s':=by
 cases f with
 | next=>obtain ⟨σ',H',I,q⟩:=h; exact ⟨σ',H',I.unwish,q⟩
 | brk=>obtain ⟨σ',H',I,q⟩:=h; exact ⟨σ',H',I.unwish,q⟩
 | cont=>obtain ⟨σ',H',I,q⟩:=h; exact ⟨σ',H',I.unwish,q⟩
 | ret u=>obtain ⟨v,σ',H',I,r,q⟩:=h; exact ⟨v,σ',H',I.unwish,r,q⟩
theorem PSs.nox {st:List Stmt}{t:TS} (h:PSs X.nox st t):PSs X st t:=fun pins s σ H D I hw =>
 wpAny_mono (h pins s σ H D (I.wish _) hw) (fun _ _ q=>q.unwish) fun _ _ z=>False.elim z
end
section
variable {X:Cx}{st:Stmt}{rest:List Stmt}{t u:TS}{e:Expr}{te:TE}{pos:Pos}
noncomputable def zSF:TS:=fun D σ H=>D.nx σ H
noncomputable def tSeq (t u:TS):TS:=fun D σ H=>t { D with nx:=u D } σ H
theorem zR9:PSs X [] zSF:=fun _ _ σ H _ I h=>wpAny_execs_nil ⟨σ,H,I,h⟩
theorem zOJ (h1:PS X st t) (h2:PSs X rest u):PSs X (st::rest) (tSeq t u):=by
 intro pins s σ H D I h
 refine wpAny_execs_cons (thn (h1 pins s σ H { D with nx:=u D } I h) fun f s1 q=>?_)
 cases f with
 | next =>
  obtain ⟨σ',H',I',q⟩:=q
  exact h2 pins s1 σ' H' D I' q
 | ret v=>exact q
 | brk=>exact q
 | cont=>exact q
noncomputable def zSJ:TS:=fun D σ H=>D.bk σ H
noncomputable def zVY:TS:=fun D σ H=>D.ct σ H
theorem zRc:PS X (.Pass pos) zSF:=fun _ _ σ H _ I h=>wpAny_Pass ⟨σ,H,I,h⟩
theorem zOM:PS X (.Break pos) zSJ:=fun _ _ σ H _ I h=>wpAny_Break ⟨σ,H,I,h⟩
theorem zIW:PS X (.Continue pos) zVY:=fun _ _ σ H _ I h=>wpAny_Continue ⟨σ,H,I,h⟩
theorem Inv.quiet {pins:List (Addr × Obj)}{σ:St}{H:Hp}{s:Shared} (I:Inv X pins σ H s):interactive X.env=false:=by simp [interactive,I.ok.kind]
noncomputable def zVW (te:TE):TS:=fun D σ H=>te σ H fun _ H1=>D.nx σ H1
theorem zRd (he:PE X e te) (hs:swapsWith e none pos.line X.env=pure false:=by rfl):PS X (.Expr e pos) (zVW te):=by
 intro pins s σ H D I h
 exact wpAny_Expr_any (thn (he pins s σ H _ I h) fun v s1 ⟨x,H1,I1,r1,q1⟩=>⟨σ,H1,I1,q1⟩) I.quiet hs
noncomputable def tRet (te:TE):TS:=fun D σ H=>te σ H D.rt
theorem zTm (he:PE X e te):PS X (.Return (some e) pos) (tRet te):=by
 intro pins s σ H D I h
 exact wpAny_Return_some (thn (he pins s σ H _ I h) fun v s1 ⟨x,H1,I1,r1,q1⟩=>⟨x,σ,H1,I1,r1,q1⟩)
noncomputable def zVT:TS:=fun D _ H=>D.rt .non H
theorem zRb:PS X (.Return none pos) zVT:=fun _ _ σ H _ I h=>wpAny_Return_none ⟨.non,σ,H,I,rfl,h⟩
noncomputable def tIfS (c:TT) (t u:TS):TS:=fun D σ H=>c σ H fun b H1=>if b=true then t D σ H1 else u D σ H1
theorem zWj {c:Expr}{a b:List Stmt}{tc:TT} (hc:PT X c tc) (ha:PSs X a t) (hb:PSs X b u):PS X (.If c a b pos) (tIfS tc t u):=by
 intro pins s σ H D I h
 refine wpAny_If (thn (hc pins s σ H _ I h) fun d s1 ⟨H1,I1,q1⟩=>?_)
 cases d with
 | true=>exact ha pins s1 σ H1 D I1 q1
 | false=>exact hb pins s1 σ H1 D I1 q1
noncomputable def zSG:TS:=fun _ _ _=>False
theorem zOL:PS X st zSG:=fun _ _ _ _ _ _ h=>h.elim
end
noncomputable abbrev TG:=V→St→Hp→(St→Hp→Prop)→Prop
noncomputable abbrev TGs:=List V→St→Hp→(St→Hp→Prop)→Prop
def PG (X:Cx) (target:Expr) (t:TG):Prop :=
 ∀ (pins:List (Addr × Obj)) (s:Shared) (σ:St) (H:Hp) (v:V) (u:Value) (Q:St→Hp→Prop),Inv X pins σ H s→RelV v u→t v σ H Q →
  wpAny (model X.prog X.w) X.A (assign target X.env u) (fun _ s'=>∃ σ' H',Inv X pins σ' H' s'∧Q σ' H') X.xe s
def PGs (X:Cx) (ts:List Expr) (t:TGs):Prop :=
 ∀ (pins:List (Addr × Obj)) (s:Shared) (σ:St) (H:Hp) (vs:List V) (us:List Value) (Q:St→Hp→Prop),Inv X pins σ H s→Vals vs us→t vs σ H Q →
  wpAny (model X.prog X.w) X.A (assignInOrder ((assignEach ts X.env).map (·.2)) us) (fun _ s'=>∃ σ' H',Inv X pins σ' H' s'∧Q σ' H') X.xe s
noncomputable abbrev TSet:=V→V→V→Hp→(Hp→Prop)→Prop
def PSet (X:Cx) (t:TSet):Prop :=
 ∀ (pins:List (Addr × Obj)) (s:Shared) (σ:St) (H:Hp) (o i v:V) (ov iv u:Value) (Q:Hp→Prop),Inv X pins σ H s→RelV o ov→RelV i iv→RelV v u→t o i v H Q →
  wpAny (model X.prog X.w) X.A (setItem ov iv u) (fun _ s'=>∃ H',Inv X pins σ H' s'∧Q H') X.xe s
section
variable {X:Cx}{pos:Pos}
noncomputable def zJk (i:Nat):TG:=fun v σ H Q=>Q (σ.set i (some v)) H
theorem zGL {i:Nat}{x:Str} (hN:X.N.Nodup) (hi:X.N[i]?=some x) (hx:Loc X.env.scope x) (hf:X.fn x=true∨X.env.scope.names.lookup x=some .local:=by first | exact .inl rfl | exact .inr rfl | assumption):PG X (.Name x pos) (zJk i):=by
 intro pins s σ H v u Q I r h
 exact wpAny_assign_Name (zOp I hN hi hx r (fun s' I'=>⟨_,H,I',h⟩) hf)
noncomputable def gNil:TGs:=fun vs σ H Q=>vs=[]∧Q σ H
noncomputable def zUD (t:TG) (u:TGs):TGs:=fun vs σ H Q=>∃ v r,vs=v::r∧t v σ H fun σ' H'=>u r σ' H' Q
theorem zMz:PGs X [] gNil:=by
 intro pins s σ H vs us Q I r h
 obtain ⟨e,h⟩:=h
 subst e
 cases r
 exact assignInOrder_nil ⟨σ,H,I,h⟩
theorem zKb {e:Expr}{es:List Expr}{t:TG}{u:TGs} (h1:PG X e t) (h2:PGs X es u)
  (hs:(assignEach (e::es) X.env).map (·.2)=assign e X.env::(assignEach es X.env).map (·.2):=by rfl):PGs X (e::es) (zUD t u):=by
 intro pins s σ H vs us Q I r h
 obtain ⟨v,vr,e1,h⟩:=h
 subst e1
 cases r with
 | cons r rr =>
  rw [hs]
  refine assignInOrder_cons (thn (h1 pins s σ H _ _ _ I r h) fun _ s1 ⟨σ1,H1,I1,q1⟩=>?_)
  exact h2 pins s1 σ1 H1 _ _ Q I1 rr q1
noncomputable def gTup (K:W.Frag) (n:Nat) (t:TGs):TG:=fun v σ H Q=>∃ a xs,v=.ref a∧SqT K H a xs∧xs.length=n∧t xs σ H Q
theorem zQ1 {es:List Expr}{k:Nat}{t:TGs}{n:Nat} (hc:X.calm=true) (h:PGs X es t)
  (hn:(assignEach es X.env).length=n:=by rfl) (hst:(assignEach es X.env).findIdx? (·.1)=none:=by rfl):PG X (.Tuple es k pos) (gTup X.K n t):=by
 intro pins s σ H v u Q I r hw
 obtain ⟨a,xs,e1,hq,hl,hw⟩:=hw
 subst e1
 cases r
 obtain ⟨its,rv,ht,hz⟩:=I.tuple hq
 refine assign_Tuple_tuple (I.ok.hd hc) ht (by simp [hn,← hl,rv.length]) hst fun h' hx=>?_
 have I1:Inv X pins σ H { s with heap:=h' }:=I.kept (t':=s.toks) fun b o e=>hx b o (qC7 (qB6 e)) e
 exact h pins _ σ H xs _ Q I1 (by simpa using rv) hw
noncomputable def gSub (to ti:TE) (t:TSet):TG:=fun v σ H Q=>to σ H fun o H1=>ti σ H1 fun i H2=>t o i v H2 fun H3=>Q σ H3
theorem zTr {o i:Expr}{to ti:TE}{t:TSet} (ho:PE X o to) (hi:PE X i ti) (hs:PSet X t)
  (ha:∀ v,assign (.Subscript o i pos) X.env v=(do
   let ov ← holding [v] (eval o X.env)
   let iv ← holding [v,ov] (eval i X.env)
   standAt pos
   holding [v,ov,iv] (setItem ov iv v)
   release [v,ov,iv] []):=by intro _; rfl):PG X (.Subscript o i pos) (gSub to ti t):=by
 intro pins s σ H v u Q I r h
 rw [ha]
 refine wpAny_bind (wpAny_holding (thn (ho pins s σ H _ I h) fun ov s1 ⟨x,H1,I1,r1,q1⟩=>?_))
 refine wpAny_bind (wpAny_holding (thn (hi pins s1 σ H1 _ I1 q1) fun iv s2 ⟨y,H2,I2,r2,q2⟩=>?_))
 refine wpAny_bind (wpAny_standAt (wpAny_bind (wpAny_holding (thn (hs pins s2 σ H2 x y v ov iv u _ I2 r1 r2 r q2) fun _ s3 ⟨H3,I3,q3⟩=>?_))))
 exact wpAny_release ⟨σ,H3,I3,q3⟩
noncomputable def tAsg (te:TE) (g:TG):TS:=fun D σ H=>te σ H fun x H1=>g x σ H1 D.nx
theorem zTo {tg e:Expr}{te:TE}{g:TG} (he:PE X e te) (hg:PG X tg g) (hs:swapsWithSole [tg] e pos.line X.env=pure false:=by rfl) (hw:swappedStores [tg] e X.env=pure none:=by rfl)
  (h1:(assignEach [tg] X.env).map (·.2)=[assign tg X.env]:=by rfl):PS X (.Assign [tg] e pos) (tAsg te g):=by
 intro pins s σ H D I h
 refine wpAny_Assign_stores (thn (he pins s σ H _ I h) fun v s1 ⟨x,H1,I1,r1,q1⟩=>?_) hs hw
 rw [h1]
 exact thn (hg pins s1 σ H1 x v _ I1 r1 q1) fun _ s2 q=>q
end
section
variable {X:Cx}{pos:Pos}
noncomputable def zSE (c:TT) (tb:TS):TS:=fun D σ H=>∃ W:Nat→St→Hp→Prop,(∃ m,W m σ H)∧∀ m σ H,W m σ H →
 c σ H fun b H1=>if b=true then ∃ N:St→Hp→Prop,(∀ σ' H',N σ' H'→∃ m',m'<m∧W m' σ' H')∧tb { D with nx:=N,ct:=N,bk:=D.nx } σ H1 else D.nx σ H1
theorem zOK {c:Expr}{body:List Stmt}{tc:TT}{tb:TS} (hp:PassesOwn (model X.prog X.w) X.A X.env X.xe) (hc:PT X c tc) (hb:PSs X body tb):PS X (.While c body [] pos) (zSE tc tb):=by
 intro pins s σ H D I h
 obtain ⟨W,⟨m0,w0⟩,turn⟩:=h
 refine wpAny_While (codeAny_whileLoop (fun n s'=>∃ σ' H',Inv X pins σ' H' s'∧W n σ' H') ?_ m0 ⟨σ,H,I,w0⟩)
 rintro n s1 ⟨σ1,H1,I1,w1⟩
 refine wpAny_passesOwn hp (thn (hc pins s1 σ1 H1 _ I1 (turn n σ1 H1 w1)) fun b s2 ⟨H2,I2,q2⟩=>?_)
 cases b with
 | true =>
  obtain ⟨N,hN,q2⟩:=q2
  rw [if_pos rfl]
  refine wpAny_passesOwn hp (thn (hb pins s2 σ1 H2 _ I2 q2) fun f s3 q3=>?_)
  cases f with
  | next =>
   obtain ⟨σ3,H3,I3,n3⟩:=q3
   obtain ⟨m',hm,w3⟩:=hN σ3 H3 n3
   exact ⟨m',hm,σ3,H3,I3,w3⟩
  | cont =>
   obtain ⟨σ3,H3,I3,n3⟩:=q3
   obtain ⟨m',hm,w3⟩:=hN σ3 H3 n3
   exact ⟨m',hm,σ3,H3,I3,w3⟩
  | brk=>exact q3
  | ret v=>exact q3
 | false =>
  rw [if_neg qB1]
  exact wpAny_execs_nil ⟨σ1,H2,I2,q2⟩
end
structure It where
 go:Nat→Hp→Prop
 yld:Nat→Hp→V→Hp→Prop
 stop:Nat→Hp→Prop
def FpOk (X:Cx) (pins:List (Addr × Obj)) (H:Hp) (b:Addr):Prop :=
 H b=none∧b≠X.env.locals∧b∉X.fs∧(b∈X.ex∨X.s₀.heap.objs.size≤b)∧(∀ x c,X.env.cells.lookup x=some c→c≠b)∧∀ p∈X.pn++pins,p.1≠b
theorem Inv.fpOk {X:Cx}{pins:List (Addr × Obj)}{σ:St}{H H':Hp}{s:Shared}{b:Addr} (I:Inv X pins σ H s) (hb:s.heap.objs.size≤b) (hn:H' b=none):FpOk X pins H' b:=by
 refine ⟨hn,qI9 (qC3 I.lt hb),I.nofs hb,.inr (qC5 I.sz hb),fun x c e z=>?_,fun p hp z=>?_⟩
 ·obtain ⟨v,q⟩:=I.cell x c e
  exact absurd (qC3 q.lt (by rw [z]; exact hb)) (qH4 _)
 ·exact absurd (qC3 (qB6 (I.pin p hp).1) (by rw [z]; exact hb)) (qH4 _)
structure Turn (P:Program) (w:World) (K:W.Frag) (tg:Expr) (J:It) (fp:List Addr) (it:Addr) (tn:Nat→Heap→Prop):Prop where
 mem:it∈fp
 obj:∀ i h,tn i h→∀ b∈fp,∃ o,h.get? b=some o∧∀ v,o.data≠.cell v
 keep:∀ i h h',tn i h→(∀ b∈fp,∀ o,h.get? b=some o→h'.get? b=some o)→tn i h'
 item:∀ (X:Cx),X.prog=P→X.w=w→X.K=K→X.calm=true→∀ (i:Nat) (pins:List (Addr × Obj)) (s:Shared) (σ:St) (H:Hp) (E:Value→Shared→Prop),Inv X pins σ H s→(∀ b∈fp,FpOk X pins H b)→tn i s.heap→J.go i H →
  wpAny (model P w) X.A (pyNext (.ref it)) (fun r s1=>∃ u,r=some u ∧
   wpAny (model P w) X.A (letOwnedTupleGo tg (.ref it) u) (fun _ s2=>∃ x H',Inv X pins σ H' s2∧RelV x u∧J.yld i H x H'∧tn (i+1) s2.heap∧∀ b∈fp,H' b=none) E s1) E s
 done:∀ (X:Cx),X.prog=P→X.w=w→X.K=K→X.calm=true→∀ (i:Nat) (pins:List (Addr × Obj)) (s:Shared) (σ:St) (H:Hp) (E:Value→Shared→Prop),Inv X pins σ H s→(∀ b∈fp,FpOk X pins H b)→tn i s.heap→J.stop i H →
  wpAny (model P w) X.A (pyNext (.ref it)) (fun r s1=>r=none∧Inv X pins σ H s1) E s
 self:∀ (A:Around) (i:Nat) (s:Shared) (Q:Value→Shared→Prop) (E:Value→Shared→Prop),tn i s.heap→Q (.ref it) s→wpAny (model P w) A (pyIter (.ref it)) Q E s
noncomputable abbrev TI:=St→Hp→(It→Hp→Prop)→Prop
inductive PIE (X:Cx) (pins:List (Addr × Obj)) (σ:St) (tg:Expr) (R:It→Hp→Prop) (itv:Value) (s2:Shared):Prop
 | mk (it:Addr) (fp:List Addr) (tn:Nat→Heap→Prop) (J:It) (H':Hp) (e:itv=.ref it) (I:Inv X pins σ H' s2) (T:Turn X.prog X.w X.K tg J fp it tn) (t0:tn 0 s2.heap) (f:∀ b∈fp,FpOk X pins H' b) (r:R J H')
def PI (X:Cx) (tg iter:Expr) (wi:TI):Prop :=
 ∀ (pins:List (Addr × Obj)) (s:Shared) (σ:St) (H:Hp) (R:It→Hp→Prop),Inv X pins σ H s→wi σ H R →
  wpAny (model X.prog X.w) X.A (eval iter X.env) (fun v s1=>wpAny (model X.prog X.w) X.A (pyIter v) (PIE X pins σ tg R) X.xe s1) X.xe s
theorem zS4 {M:Model}{A:Around}{E:Value→Shared→Prop}{s:Shared}{tg:Expr}{it:Addr}{u:Value}{o:Obj}{n:String}{vs:Array Value}{Q:Unit→Shared→Prop} (ho:s.heap.get? it=some o) (hc:o.cls=.type n) (hd:o.data=.fields vs)
    (hn:["enumerate","zip","dict_itemiterator","dict_reverseitemiterator","odict_iterator","itertools.zip_longest","itertools.pairwise"].contains n=false) (hQ:Q () s):wpAny M A (letOwnedTupleGo tg (.ref it) u) Q E s:=by
  unfold letOwnedTupleGo
  cases tg <;> first
    | exact wpAny_pure hQ
    | (cases u <;> first
        | exact wpAny_pure hQ
        | (refine wpAny_bind (wpAny_load ho ?_)
           rw [hc,hd]
           show wpAny M A (if (["enumerate","zip","dict_itemiterator","dict_reverseitemiterator","odict_iterator","itertools.zip_longest","itertools.pairwise"].contains n&&vs[0]? == some (rawInt _))=true then _ else _) Q E s
           rw [if_neg (by intro h; rw [hn,qP4] at h; cases h)]
           exact wpAny_pure hQ))
noncomputable def Itl (K:W.Frag) (a:Addr):It :=
 ⟨fun i H=>∃ xs x,SqL K H a xs∧xs[i]?=some x,fun i H x H'=>H'=H∧∀ xs,SqL K H a xs→xs[i]?=some x,fun i H=>∃ xs,SqL K H a xs∧xs.length≤i⟩
noncomputable def Itt (K:W.Frag) (a:Addr):It :=
 ⟨fun i H=>∃ xs x,SqT K H a xs∧xs[i]?=some x,fun i H x H'=>H'=H∧∀ xs,SqT K H a xs→xs[i]?=some x,fun i H=>∃ xs,SqT K H a xs∧xs.length≤i⟩
noncomputable def Itr (lo:Int) (n:Nat):It:=⟨fun i _=>i<n,fun i H x H'=>H'=H∧x=.int (lo+i),fun i _=>n≤i⟩
theorem zM2 {P:Program}{w:World}{K:W.Frag}{tg:Expr} (a it:Addr):Turn P w K tg (Itl K a) [it] it (fun i h=>h.IsListIter it a i) where
 mem:=by simp
 obj:=fun i h st b hb=>by
  have e:b=it:=by simpa using hb
  subst e
  obtain ⟨o,e,c,d⟩:=st
  exact ⟨o,e,fun v z=>by rw [d] at z; cases z⟩
 keep:=fun i h h' st k=>st.at fun o e=>k it (by simp) o e
 item:=by
  intro X hP hw hK hc i pins s σ H E I hf st hg
  subst hP hw hK
  obtain ⟨xs,x,hq,hx⟩:=hg
  obtain ⟨its,rv,p,hz⟩:=I.list hq
  obtain ⟨u,hu,ru⟩:=rv.get hx
  obtain ⟨f0,f1,f2,f3,f4,f5⟩:=hf it (by simp)
  refine wpAny_pyNext_list_item st p.isList (x:=u) (by simpa using hu) fun h' st' sb=>?_
  have I1:Inv X pins σ H { s with heap:=h' }:=I.turned (t':=s.toks) (fun b o hb e=>(sb.2 b hb).trans e) f0 f1 f3 f4 f5
  obtain ⟨o,e,c,d⟩:=id st'
  exact ⟨u,rfl,zS4 (s:={ s with heap:=h' }) e c d (by decide) ⟨x,H,I1,ru,⟨rfl,fun ys hy=>by rw [I.list_inj hy hq]; exact hx⟩,st',fun b hb=>(hf b hb).1⟩⟩
 done:=by
  intro X hP hw hK hc i pins s σ H E I hf st hg
  subst hP hw hK
  obtain ⟨xs,hq,hx⟩:=hg
  obtain ⟨its,rv,p,hz⟩:=I.list hq
  obtain ⟨f0,f1,f2,f3,f4,f5⟩:=hf it (by simp)
  have hl:=rv.length
  exact wpAny_pyNext_list_end (I.ok.hd hc) st p.isList (by simp; omega) fun h' eb=>⟨rfl,I.turned (t':=s.toks) (fun b o hb e=>eb b o hb e) f0 f1 f3 f4 f5⟩
 self:=fun _ _ _ _ _ st h=>wpAny_pyIter_listiter st h
theorem zKO {P:Program}{w:World}{K:W.Frag}{tg:Expr} (a it:Addr):Turn P w K tg (Itt K a) [it] it (fun i h=>h.IsTupleIter it a i) where
 mem:=by simp
 obj:=fun i h st b hb=>by
  have e:b=it:=by simpa using hb
  subst e
  obtain ⟨o,e,c,d⟩:=st
  exact ⟨o,e,fun v z=>by rw [d] at z; cases z⟩
 keep:=fun i h h' st k=>st.at fun o e=>k it (by simp) o e
 item:=by
  intro X hP hw hK hc i pins s σ H E I hf st hg
  subst hP hw hK
  obtain ⟨xs,x,hq,hx⟩:=hg
  obtain ⟨its,rv,p,hz⟩:=I.tuple hq
  obtain ⟨u,hu,ru⟩:=rv.get hx
  obtain ⟨f0,f1,f2,f3,f4,f5⟩:=hf it (by simp)
  refine wpAny_pyNext_tuple_item st (show s.heap.IsTuple a its.toArray from p) (x:=u) (by simpa using hu) fun h' st' sb=>?_
  have I1:Inv X pins σ H { s with heap:=h' }:=I.turned (t':=s.toks) (fun b o hb e=>(sb.2 b hb).trans e) f0 f1 f3 f4 f5
  obtain ⟨o,e,c,d⟩:=id st'
  exact ⟨u,rfl,zS4 (s:={ s with heap:=h' }) e c d (by decide) ⟨x,H,I1,ru,⟨rfl,fun ys hy=>by rw [I.tuple_inj hy hq]; exact hx⟩,st',fun b hb=>(hf b hb).1⟩⟩
 done:=by
  intro X hP hw hK hc i pins s σ H E I hf st hg
  subst hP hw hK
  obtain ⟨xs,hq,hx⟩:=hg
  obtain ⟨its,rv,p,hz⟩:=I.tuple hq
  obtain ⟨f0,f1,f2,f3,f4,f5⟩:=hf it (by simp)
  have hl:=rv.length
  exact wpAny_pyNext_tuple_end (I.ok.hd hc) st (show s.heap.IsTuple a its.toArray from p) (by simp; omega) fun h' eb=>⟨rfl,I.turned (t':=s.toks) (fun b o hb e=>eb b o hb e) f0 f1 f3 f4 f5⟩
 self:=fun _ _ _ _ _ st h=>wpAny_pyIter_tupleiter st h
theorem zKP {P:Program}{w:World}{K:PySem.W.Frag}{tg:Expr} (it:Addr) (lo:Int) (n:Nat):Turn P w K tg (Itr lo n) [it] it (fun i h=>IsRangeIter h it (lo+(i:Nat)*1) ((n:Int) - (i:Nat)) 1) where
 mem:=by simp
 obj:=fun i h st b hb=>by
  have e:b=it:=by simpa using hb
  subst e
  exact ⟨_,st,fun v z=>by
   have z':Data.fields _=Data.cell v:=z
   cases z'⟩
 keep:=fun i h h' st k=>k it (by simp) _ st
 item:=by
  intro X hP hw hK hc i pins s σ H E I hf st hg
  subst hP hw hK
  obtain ⟨f0,f1,f2,f3,f4,f5⟩:=hf it (by simp)
  have W:=Walks.range (prog:=X.prog) (w:=X.w) (I.ok.hd hc) it lo 1 n
  refine W.item i s _ _ hg st fun v h' tk hv st' kk=>?_
  obtain ⟨t,rfl⟩:=hv
  have I1:Inv X pins σ H { s with heap:=h',toks:=tk }:=I.turned (fun b o hb e=>kk b o (by simpa using hb) e) f0 f1 f3 f4 f5
  refine ⟨_,rfl,zS4 (s:={ s with heap:=h',toks:=tk }) (n := "range_iterator") st' rfl rfl (by decide) ⟨.int (lo+i),H,I1,⟨t,?_⟩,⟨rfl,rfl⟩,st',fun b hb=>(hf b hb).1⟩⟩
  rw [Int.mul_one]
 done:=by
  intro X hP hw hK hc i pins s σ H E I hf st hg
  subst hP hw hK
  obtain ⟨f0,f1,f2,f3,f4,f5⟩:=hf it (by simp)
  exact wpAny_pyNext_range_end (I.ok.hd hc) st (by have:n≤i:=hg; omega) fun h' eb=>⟨rfl,I.turned (t':=s.toks) (fun b o hb e=>eb b o hb e) f0 f1 f3 f4 f5⟩
 self:=fun _ _ _ _ _ st h=>wpAny_pyIter_rangeiter st h
section
variable {X:Cx}{tg:Expr}
theorem zKa {pins:List (Addr × Obj)}{σ:St}{H:Hp}{s:Shared}{R:It→Hp→Prop}{E:Value→Shared→Prop}{lo hi:Int}{t u v:Tok}{tk:Nat} (I:Inv X pins σ H s) (h1:-(2 ^ 62)≤lo) (h2:lo<2 ^ 62) (h3:-(2 ^ 62)≤hi) (h4:hi<2 ^ 62)
  (q:R (Itr lo (hi - lo).toNat) H):wpAny (model X.prog X.w) X.A (pyIter (.ref s.heap.objs.size)) (PIE X pins σ tg R) E { s with heap:=s.heap.push { cls:=.type "range",data:=.fields #[.int lo t,.int hi u,.int 1 v] },toks:=tk }:=by
 refine wpAny_pyIter_range (IsRange.new ..) (small_one h1 h2 h3 h4) ?_
 have I1:Inv X pins σ H { s with heap:=s.heap.push { cls:=.type "range",data:=.fields #[.int lo t,.int hi u,.int 1 v] },toks:=tk }:=I.kept fun b o e=>qA5 _ e
 refine ⟨(s.heap.push { cls:=.type "range",data:=.fields #[.int lo t,.int hi u,.int 1 v] }).objs.size,[(s.heap.push { cls:=.type "range",data:=.fields #[.int lo t,.int hi u,.int 1 v] }).objs.size],_,_,H,rfl,
  I1.kept (t':=tk) fun b o e=>qA5 _ e,zKP _ lo (hi - lo).toNat,?_,fun b hb=>?_,q⟩
 ·have e1:lo+((0:Nat):Int)*1=lo:=by simp
  have e2:(((hi - lo).toNat:Nat):Int) - ((0:Nat):Int)=Builtin.Range.rangeSize lo hi 1:=by rw [rangeSize_one]; split <;> omega
  show IsRangeIter _ _ (lo+((0:Nat):Int)*1) ((((hi - lo).toNat:Nat):Int) - ((0:Nat):Int)) 1
  rw [e1,e2]
  exact qB4 _ rfl
 ·have e:b=(s.heap.push { cls:=.type "range",data:=.fields #[.int lo t,.int hi u,.int 1 v] }).objs.size:=by simpa using hb
  subst e
  exact I1.fpOk (qB0 _) (I1.hok.fresh (qB0 _))
noncomputable def zUy (ta:TA):TI:=fun σ H R=>ta σ H fun vs H1=>∃ j:Int,vs=[.int j]∧-(2 ^ 62)≤j∧j<2 ^ 62∧R (Itr 0 j.toNat) H1
noncomputable def zUx (ta:TA):TI:=fun σ H R=>ta σ H fun vs H1=>∃ i j:Int,vs=[.int i,.int j]∧(-(2 ^ 62)≤i∧i<2 ^ 62∧-(2 ^ 62)≤j∧j<2 ^ 62)∧R (Itr i (j - i).toNat) H1
theorem zMy {a:Expr}{ta:TA}{p pos:Pos} (hg:Gl X "range") (hm:X.mg "range"=none) (ha:PA X [a] ta) (hs:starEach [a] X.env=[(false,eval a X.env)]:=by rfl):PI X tg (.Call (.Name "range" p) [a] [] pos) (zUy ta):=by
 intro pins s σ H R I h
 refine Call_ (zF8 I hg hm boot_range (PyProof.Rows.callWith_type1 (thn (ha pos pins s σ H _ I h) fun us s1 ⟨vs,H1,I1,r1,q1⟩=>?_) hs rfl))
 obtain ⟨j,e,q1,q2,q⟩:=q1
 subst e
 cases r1 with
 | cons r rr =>
  cases rr
  obtain ⟨t,rfl⟩:=r
  exact call_range_1 (zKa I1 (by omega) (by omega) q1 q2 (by simpa using q))
theorem zMx {a b:Expr}{ta:TA}{p pos:Pos} (hg:Gl X "range") (hm:X.mg "range"=none) (ha:PA X [a,b] ta) (hs:starEach [a,b] X.env=[(false,eval a X.env),(false,eval b X.env)]:=by rfl) (hs2:starEach [b] X.env=[(false,eval b X.env)]:=by rfl) :
  PI X tg (.Call (.Name "range" p) [a,b] [] pos) (zUx ta):=by
 intro pins s σ H R I h
 refine Call_ (zF8 I hg hm boot_range (PyProof.Rows.callWith_type1 (thn (ha pos pins s σ H _ I h) fun us s1 ⟨vs,H1,I1,r1,q1⟩=>?_) (by rw [hs,hs2]) (by rw [hs2]; rfl)))
 obtain ⟨i,j,e,⟨q1,q2,q3,q4⟩,q⟩:=q1
 subst e
 cases r1 with
 | cons r rr =>
  cases rr with
  | cons r' rr =>
   cases rr
   obtain ⟨t,rfl⟩:=r
   obtain ⟨t',rfl⟩:=r'
   exact call_range_2 (zKa I1 q1 q2 q3 q4 q)
noncomputable def tFor (wi:TI) (g:TG) (tb:TS):TS:=fun D σ H=>wi σ H fun J H1=>∃ W:Nat→Nat→St→Hp→Prop,(∃ m,W 0 m σ H1)∧∀ i m σ H,W i m σ H →
 (J.stop i H∧D.nx σ H)∨(J.go i H∧∃ N:St→Hp→Prop,(∀ σ' H',N σ' H'→∃ m',m'<m∧W (i+1) m' σ' H')∧∀ x H',J.yld i H x H'→g x σ H' fun σ2 H2=>tb { D with nx:=N,ct:=N,bk:=D.nx } σ2 H2)
noncomputable def zHK (fp:List Addr) (h:Heap):List (Addr × Obj):=fp.filterMap fun b=>(h.get? b).map fun o=>(b,o)
theorem zCu {fp:List Addr}{h:Heap}{b:Addr}{o:Obj} (hb:b∈fp) (e:h.get? b=some o):(b,o)∈zHK fp h:=qF9.mpr ⟨b,hb,by rw [e]; rfl⟩
theorem zMI {fp:List Addr}{h:Heap}{p:Addr × Obj} (hp:p∈zHK fp h):p.1∈fp∧h.get? p.1=some p.2:=by
 obtain ⟨b,hb,e⟩:=qF9.mp hp
 cases q:h.get? b with
 | none=>rw [q] at e; cases e
 | some o =>
  rw [q] at e
  have e':(b,o)=p:=Option.some.inj e
  subst e'
  exact ⟨hb,q⟩
theorem Inv.pinned {pins:List (Addr × Obj)}{σ:St}{H:Hp}{s:Shared}{fp:List Addr} (I:Inv X pins σ H s) (hf:∀ b∈fp,FpOk X pins H b) (ho:∀ b∈fp,∃ o,s.heap.get? b=some o∧∀ v,o.data≠.cell v):Inv X (pins++zHK fp s.heap) σ H s :=
 I.pins_of fun p hp=>(qB3.mp hp).elim (fun z=>I.pin p (qC6 _ z)) fun z=>by
  obtain ⟨hb,e⟩:=zMI z
  obtain ⟨f0,f1,f2,_⟩:=hf p.1 hb
  obtain ⟨o,e',d⟩:=ho p.1 hb
  rw [e] at e'; cases e'
  exact ⟨e,f0,f1,f2,d⟩
theorem Inv.unpinned {pins pl:List (Addr × Obj)}{σ:St}{H:Hp}{s:Shared} (I:Inv X (pins++pl) σ H s):Inv X pins σ H s:=I.pins_of fun p hp=>I.pin p (qC6 _ (qD5 _ hp))
theorem zTn {iter:Expr}{body:List Stmt}{wi:TI}{g:TG}{tb:TS}{pos:Pos} (hp:PassesOwn (model X.prog X.w) X.A X.env X.xe) (hc:X.calm=true) (hi:PI X tg iter wi) (hg:PG X tg g) (hb:PSs X body tb)
  (hs:∀ x,foldedSetIterable iter X.env x=pure x:=by intro _; rfl):PS X (.For tg iter body [] pos) (tFor wi g tb):=by
 intro pins s σ H D I h
 refine wpAny_For (thn (hi pins s σ H _ I h) fun v s1 h1=>thn h1 fun itv s2 h2=>?_) hs
 obtain ⟨it,fp,tn,J,H2,e,I2,T,st2,f2,W,⟨m0,w0⟩,turn⟩:=h2
 subst e
 have stat:∀ {H':Hp},(∀ b∈fp,H' b=none)→∀ b∈fp,FpOk X pins H' b:=fun hn b hb=>⟨hn b hb,(f2 b hb).2⟩
 refine codeAny_forLoop_any (fun n s'=>∃ i σ' H',Inv X pins σ' H' s'∧tn i s'.heap∧(∀ b∈fp,H' b=none)∧W i n σ' H') ?_ m0 ⟨0,σ,H2,I2,st2,fun b hb=>(f2 b hb).1,w0⟩
 rintro n s3 ⟨i,σ3,H3,I3,st3,fr3,w3⟩
 rcases turn i n σ3 H3 w3 with ⟨stop,qn⟩ | ⟨go,N,hN,step⟩
 ·refine wpAny_passesOwn hp (thn (T.done X rfl rfl rfl hc i pins s3 σ3 H3 X.xe I3 (stat fr3) st3 stop) fun r s4 ⟨hr,I4⟩=>?_)
  subst hr
  exact wpAny_execs_nil ⟨σ3,H3,I4,qn⟩
 ·refine wpAny_passesOwn hp (thn (T.item X rfl rfl rfl hc i pins s3 σ3 H3 X.xe I3 (stat fr3) st3 go) fun r s4 ⟨u,hr,h4⟩=>?_)
  subst hr
  refine wpAny_passesOwn hp (thn h4 fun _ s5 ⟨x,H5,I5,r5,y5,st5,fr5⟩=>?_)
  have I5':=I5.pinned (stat fr5) (T.obj _ _ st5)
  refine wpAny_passesOwn hp (thn (hg _ s5 σ3 H5 x u _ I5' r5 (step x H5 y5)) fun _ s6 ⟨σ6,H6,I6,q6⟩=>?_)
  refine wpAny_passesOwn hp (thn (hb _ s6 σ6 H6 _ I6 q6) fun f s7 q7=>?_)
  have again:∀ {σ7:St}{H7:Hp},Inv X (pins++zHK fp s5.heap) σ7 H7 s7→N σ7 H7→∃ m,m<n∧∃ i σ' H',Inv X pins σ' H' s7∧tn i s7.heap∧(∀ b∈fp,H' b=none)∧W i m σ' H':=fun {σ7 H7} I7 n7=>by
   obtain ⟨m',hm,w7⟩:=hN σ7 H7 n7
   refine ⟨m',hm,i+1,σ7,H7,I7.unpinned,T.keep _ _ _ st5 fun b hb o e=>(I7.pin (b,o) (qC6 _ (qC6 _ (zCu hb e)))).1,fun b hb=>?_,w7⟩
   obtain ⟨o,e,d⟩:=T.obj _ _ st5 b hb
   exact (I7.pin (b,o) (qC6 _ (qC6 _ (zCu hb e)))).2.1
  cases f with
  | next=>obtain ⟨σ7,H7,I7,n7⟩:=q7; exact again I7 n7
  | cont=>obtain ⟨σ7,H7,I7,n7⟩:=q7; exact again I7 n7
  | brk=>obtain ⟨σ7,H7,I7,q7⟩:=q7; exact ⟨σ7,H7,I7.unpinned,q7⟩
  | ret v=>obtain ⟨x7,σ7,H7,I7,r7,q7⟩:=q7; exact ⟨x7,σ7,H7,I7.unpinned,r7,q7⟩
end
noncomputable abbrev R2:=V→V→Hp→VK→Prop
def OpR (X:Cx) (f:Value→Value→Sem Value) (r:R2):Prop :=
 ∀ (pins:List (Addr × Obj)) (s:Shared) (σ:St) (H:Hp) (x y:V) (v u:Value) (Q:VK),Inv X pins σ H s→RelV x v→RelV y u→r x y H Q →
  wpAny (model X.prog X.w) X.A (f v u) (EP X pins σ Q) X.xe s
def UnR (X:Cx) (f:Value→Sem Value) (r:V→Hp→VK→Prop):Prop :=
 ∀ (pins:List (Addr × Obj)) (s:Shared) (σ:St) (H:Hp) (x:V) (v:Value) (Q:VK),Inv X pins σ H s→RelV x v→r x H Q →
  wpAny (model X.prog X.w) X.A (f v) (EP X pins σ Q) X.xe s
def zAV (X:Cx) (f:Value) (r:List V→Hp→VK→Prop):Prop :=
 ∀ (pins:List (Addr × Obj)) (s:Shared) (σ:St) (H:Hp) (xs:List V) (us:List Value) (Q:VK),Inv X pins σ H s→Vals xs us→r xs H Q →
  wpAny (model X.prog X.w) X.A (call f us) (EP X pins σ Q) X.xe s
def TruR (X:Cx) (r:V→Hp→(Bool→Hp→Prop)→Prop):Prop :=
 ∀ (pins:List (Addr × Obj)) (s:Shared) (σ:St) (H:Hp) (x:V) (v:Value) (Q:Bool→Hp→Prop),Inv X pins σ H s→RelV x v→r x H Q →
  wpAny (model X.prog X.w) X.A (truthy v) (TP X pins σ Q) X.xe s
noncomputable def tOp (r:R2) (ta tb:TE):TE:=fun σ H Q=>ta σ H fun x H1=>tb σ H1 fun y H2=>r x y H2 Q
noncomputable def tUn (r:V→Hp→VK→Prop) (ta:TE):TE:=fun σ H Q=>ta σ H fun x H1=>r x H1 Q
noncomputable def rI (C:Int→Int→Prop) (g:Int→Int→V):R2:=fun x y H Q=>∃ i j,x=.int i∧y=.int j∧C i j∧Q (g i j) H
noncomputable def rI0 (g:Int→Int→V):R2:=fun x y H Q=>∃ i j,x=.int i∧y=.int j∧Q (g i j) H
noncomputable def rU (g:Int→V):V→Hp→VK→Prop:=fun x H Q=>∃ i,x=.int i∧Q (g i) H
section
variable {X:Cx}{a b c:Expr}{ta tb tc:TE}{pos:Pos}
theorem binT (ha:PE X a ta) (hb:PE X b tb) {pins:List (Addr × Obj)}{s:Shared}{σ:St}{H:Hp}{R:V→V→Hp→Prop} (I:Inv X pins σ H s)
  (h:ta σ H fun x H1=>tb σ H1 fun y H2=>R x y H2) {Q:Value→Shared→Prop}{f:Value→Value→Sem Value}
  (hf:∀ v u s2 x y H2,Inv X pins σ H2 s2→RelV x v→RelV y u→R x y H2→wpAny (model X.prog X.w) X.A (f v u) Q X.xe s2) :
  wpAny (model X.prog X.w) X.A (eval a X.env) (fun v s₁=>wpAny (model X.prog X.w) X.A (eval b X.env) (fun u s₂=>wpAny (model X.prog X.w) X.A (f v u) Q X.xe s₂) X.xe s₁) X.xe s:=by
 refine thn (ha pins s σ H _ I h) fun v s1 ⟨x,H1,I1,r1,q1⟩=>?_
 refine thn (hb pins s1 σ H1 _ I1 q1) fun u s2 ⟨y,H2,I2,r2,q2⟩=>?_
 exact hf v u s2 x y H2 I2 r1 r2 q2
theorem zWm {op:Operator}{r:R2} (ho:OpR X (binaryOp op) r) (ha:PE X a ta) (hb:PE X b tb):PE X (.BinOp a op b pos) (tOp r ta tb):=by
 intro pins s σ H Q I h
 exact wpAny_BinOp (binT ha hb I h fun v u s2 x y H2 I2 rx ry q=>ho pins s2 σ H2 x y v u Q I2 rx ry q)
theorem zWk {op:UnaryOp}{r:V→Hp→VK→Prop} (ho:UnR X (unaryOp op) r) (ha:PE X a ta):PE X (.UnaryOp op a pos) (tUn r ta):=by
 intro pins s σ H Q I h
 exact UnaryOp_ (thn (ha pins s σ H _ I h) fun v s1 ⟨x,H1,I1,r1,q1⟩=>ho pins s1 σ H1 x v Q I1 r1 q1)
theorem opI {f:Value→Value→Sem Value}{C:Int→Int→Prop}{g:Int→Int→Int}
  (rule:∀ (i j:Int) (t u:Tok) (s:Shared) (Q:Value→Shared→Prop) (E:Value→Shared→Prop),C i j→Q (.int (g i j) s.toks) { s with toks:=s.toks+1 }→wpAny (model X.prog X.w) X.A (f (.int i t) (.int j u)) Q E s) :
  OpR X f (rI C fun i j=>.int (g i j)):=by
 intro pins s σ H x y v u Q I rx ry h
 obtain ⟨i,j,rfl,rfl,hc,q⟩:=h
 obtain ⟨t,rfl⟩:=rx
 obtain ⟨t',rfl⟩:=ry
 exact rule i j t t' s _ _ hc ⟨.int (g i j),H,I.tok _,⟨_,rfl⟩,q⟩
theorem opI0 {f:Value→Value→Sem Value}{g:Int→Int→Int}
  (rule:∀ (i j:Int) (t u:Tok) (s:Shared) (Q:Value→Shared→Prop) (E:Value→Shared→Prop),Q (.int (g i j) s.toks) { s with toks:=s.toks+1 }→wpAny (model X.prog X.w) X.A (f (.int i t) (.int j u)) Q E s) :
  OpR X f (rI0 fun i j=>.int (g i j)):=by
 intro pins s σ H x y v u Q I rx ry h
 obtain ⟨i,j,rfl,rfl,q⟩:=h
 obtain ⟨t,rfl⟩:=rx
 obtain ⟨t',rfl⟩:=ry
 exact rule i j t t' s _ _ ⟨.int (g i j),H,I.tok _,⟨_,rfl⟩,q⟩
theorem opB0 {f:Value→Value→Sem Value}{g:Int→Int→Bool}
  (rule:∀ (i j:Int) (t u:Tok) (s:Shared) (Q:Value→Shared→Prop) (E:Value→Shared→Prop),Q (.bool (g i j)) s→wpAny (model X.prog X.w) X.A (f (.int i t) (.int j u)) Q E s) :
  OpR X f (rI0 fun i j=>.bl (g i j)):=by
 intro pins s σ H x y v u Q I rx ry h
 obtain ⟨i,j,rfl,rfl,q⟩:=h
 obtain ⟨t,rfl⟩:=rx
 obtain ⟨t',rfl⟩:=ry
 exact rule i j t t' s _ _ ⟨.bl (g i j),H,I,rfl,q⟩
def CDiv (i j:Int):Prop:=0<j∧j<1073741824
def CPow (i j:Int):Prop:=0≤j∧j≤1000000∧i.natAbs<2 ^ 64
def CMul (i j:Int):Prop:=(-(2 ^ 64)<i∧i<2 ^ 64)∨(-(2 ^ 64)<j∧j<2 ^ 64)
theorem CMul.ok {i j:Int} (h:CMul i j):IntMulOk i j:=by
 rcases h with ⟨h1,h2⟩ | ⟨h1,h2⟩
 ·exact .of_left (intBits_le_64 h1 h2)
 ·exact .of_right (intBits_le_64 h1 h2)
theorem zKN (k:Nat):(0:Int)≤2 ^ k:=by
 rw [two_pow_cast]
 exact Int.natCast_nonneg _
theorem zTZ:OpR X (binaryOp .Add) (rI0 fun i j=>.int (i+j)):=opI0 fun _ _ _ _ _ _ _ q=>add_int q
theorem zTN:OpR X (binaryOp .Sub) (rI0 fun i j=>.int (i - j)):=opI0 fun _ _ _ _ _ _ _ q=>sub_int q
theorem zTS:OpR X (binaryOp .Mult) (rI CMul fun i j=>.int (i*j)):=opI fun _ _ _ _ _ _ _ hc q=>mul_int q hc.ok
theorem zRp:OpR X (binaryOp .FloorDiv) (rI CDiv fun i j=>.int (i / j)):=opI fun i j _ _ _ _ _ hc q=>by
 have h1:(0:Int)<j:=hc.1
 have h2:j<1073741824:=hc.2
 exact floordiv_int (by omega) (by rw [qM9 i (by omega)]; exact q) (.inl (PyProof.noPylong_small (by omega)))
theorem zTT:OpR X (binaryOp .Mod) (rI (fun _ j=>0<j) fun i j=>.int (i % j)):=opI fun i j _ _ _ _ _ hc q=>by
 have h1:(0:Int)<j:=hc
 exact mod_int' (by omega) (by rw [Int.fmod_eq_emod_of_nonneg i (by omega)]; exact q)
theorem zTQ:OpR X (binaryOp .Pow) (rI CPow fun i j=>.int (i ^ j.toNat)):=opI fun _ _ _ _ _ _ _ hc q=>pow_int_small hc.1 hc.2.1 hc.2.2 q
theorem zTP:OpR X (binaryOp .LShift) (rI CPow fun i j=>.int (i*2 ^ j.toNat)):=opI fun _ _ _ _ _ _ _ hc q=>lshift_int_small hc.1 hc.2.1 hc.2.2 q
theorem zTO:OpR X (binaryOp .RShift) (rI (fun _ j=>0≤j) fun i j=>.int (i / 2 ^ j.toNat)):=opI fun i j _ _ _ _ _ hc q =>
 rshift_int hc (by rw [qM9 i (zKN _)]; exact q)
theorem zTY:OpR X (binaryOp .BitAnd) (rI0 fun i j=>.int (Builtin.bitAnd i j)):=opI0 fun _ _ _ _ _ _ _ q=>and_int q
theorem zWC:OpR X (binaryOp .BitOr) (rI0 fun i j=>.int (Builtin.bitOr i j)):=opI0 fun _ _ _ _ _ _ _ q=>or_int q
theorem zTM:OpR X (binaryOp .BitXor) (rI0 fun i j=>.int (Builtin.bitXor i j)):=opI0 fun _ _ _ _ _ _ _ q=>xor_int q
theorem unI {f:Value→Sem Value}{g:Int→Int}
  (rule:∀ (i:Int) (t:Tok) (s:Shared) (Q:Value→Shared→Prop) (E:Value→Shared→Prop),Q (.int (g i) s.toks) { s with toks:=s.toks+1 }→wpAny (model X.prog X.w) X.A (f (.int i t)) Q E s) :
  UnR X f (rU fun i=>.int (g i)):=by
 intro pins s σ H x v Q I rx h
 obtain ⟨i,rfl,q⟩:=h
 obtain ⟨t,rfl⟩:=rx
 exact rule i t s _ _ ⟨.int (g i),H,I.tok _,⟨_,rfl⟩,q⟩
theorem zSA:UnR X (unaryOp .USub) (rU fun i=>.int (-i)):=unI fun _ _ _ _ _ q=>neg_int q
end
noncomputable def scal:V→V→Bool
 | .non,.non=>true | .non,.int _=>true | .int _,.non=>true | .non,.bl _=>true | .bl _,.non=>true | .non,.str _=>true | .str _,.non=>true
 | .int _,.int _=>true | .bl _,.bl _=>true | .str _,.str _=>true | .byt _,.byt _=>true
 | .int _,.str _=>true | .str _,.int _=>true | .bl _,.str _=>true | .str _,.bl _=>true
 | _,_=>false
noncomputable def rEq:R2:=fun x y H Q=>scal x y=true∧Q (.bl (decide (x=y))) H
noncomputable def rNe:R2:=fun x y H Q=>scal x y=true∧Q (.bl (!decide (x=y))) H
theorem zND {i j:Int}:decide (V.int i=V.int j)=(i == j):=by
 rw [qM4]
 simp
theorem zQf {i j:Bool}:decide (V.bl i=V.bl j)=(i == j):=by
 rw [qM4]
 simp
theorem zNC {i j:Str}:decide (V.str i=V.str j)=(i == j):=by
 rw [qM4]
 simp
theorem zNE {i j:Array UInt8}:decide (V.byt i=V.byt j)=(i.toList == j.toList):=by
 rw [qM4]
 cases i
 cases j
 simp
section
variable {X:Cx}{a b c:Expr}{ta tb tc:TE}{pos:Pos}
theorem zAg {pins:List (Addr × Obj)}{σ:St}{H:Hp}{s:Shared}{Q:VK}{k k':Bool} (I:Inv X pins σ H s) (q:Q (.bl k) H) (e:k=k'):EP X pins σ Q (.bool k') s:=by
 subst e
 exact ⟨.bl k,H,I,rfl,q⟩
theorem zWI:OpR X (compareOp .Eq) rEq:=by
 intro pins s σ H x y v u Q I rx ry h
 obtain ⟨hs,q⟩:=h
 cases x with
 | non =>
  cases rx
  cases y with
  | non=>cases ry; exact PySem.EqNone.eq_none_none (zAg I q (by simp))
  | bl j=>cases ry; exact PySem.EqNone.eq_none_bool (zAg I q (by simp))
  | int j=>obtain ⟨t',rfl⟩:=ry; exact PySem.EqNone.eq_none_int (zAg I q (by simp))
  | str j=>obtain ⟨t',rfl⟩:=ry; exact PySem.EqNone.eq_none_str (zAg I q (by simp))
  | _=>exact absurd (show false=true from hs) qB1
 | bl i =>
  cases rx
  cases y with
  | non=>cases ry; exact PySem.EqNone.eq_bool_none (zAg I q (by simp))
  | bl j=>cases ry; exact eq_bool (zAg I q zQf)
  | str j=>obtain ⟨t',rfl⟩:=ry; exact PySem.EqMixed.eq_bool_str (zAg I q (by simp))
  | _=>exact absurd (show false=true from hs) qB1
 | int i =>
  obtain ⟨t,rfl⟩:=rx
  cases y with
  | non=>cases ry; exact PySem.EqNone.eq_int_none (zAg I q (by simp))
  | int j=>obtain ⟨t',rfl⟩:=ry; exact eq_int (zAg I q zND)
  | str j=>obtain ⟨t',rfl⟩:=ry; exact PySem.EqMixed.eq_int_str (zAg I q (by simp))
  | _=>exact absurd (show false=true from hs) qB1
 | str i =>
  obtain ⟨t,rfl⟩:=rx
  cases y with
  | non=>cases ry; exact PySem.EqNone.eq_str_none (zAg I q (by simp))
  | bl j=>cases ry; exact PySem.EqMixed.eq_str_bool (zAg I q (by simp))
  | int j=>obtain ⟨t',rfl⟩:=ry; exact PySem.EqMixed.eq_str_int (zAg I q (by simp))
  | str j=>obtain ⟨t',rfl⟩:=ry; exact eq_str (zAg I q zNC)
  | _=>exact absurd (show false=true from hs) qB1
 | byt i =>
  obtain ⟨t,rfl⟩:=rx
  cases y with
  | byt j=>obtain ⟨t',rfl⟩:=ry; exact W.eq_bytes (zAg I q zNE)
  | _=>exact absurd (show false=true from hs) qB1
 | _=>cases y <;> exact absurd (show false=true from hs) qB1
theorem zWD:OpR X (compareOp .NotEq) rNe:=by
 intro pins s σ H x y v u Q I rx ry h
 obtain ⟨hs,q⟩:=h
 cases x with
 | non =>
  cases rx
  cases y with
  | non=>cases ry; exact PySem.EqNone.ne_none_none (zAg I q (by simp))
  | bl j=>cases ry; exact PySem.EqNone.ne_none_bool (zAg I q (by simp))
  | int j=>obtain ⟨t',rfl⟩:=ry; exact PySem.EqNone.ne_none_int (zAg I q (by simp))
  | str j=>obtain ⟨t',rfl⟩:=ry; exact PySem.EqNone.ne_none_str (zAg I q (by simp))
  | _=>exact absurd (show false=true from hs) qB1
 | bl i =>
  cases rx
  cases y with
  | non=>cases ry; exact PySem.EqNone.ne_bool_none (zAg I q (by simp))
  | bl j=>cases ry; exact ne_bool (zAg I q (congrArg not zQf))
  | str j=>obtain ⟨t',rfl⟩:=ry; exact PySem.EqMixed.ne_bool_str (zAg I q (by simp))
  | _=>exact absurd (show false=true from hs) qB1
 | int i =>
  obtain ⟨t,rfl⟩:=rx
  cases y with
  | non=>cases ry; exact PySem.EqNone.ne_int_none (zAg I q (by simp))
  | int j=>obtain ⟨t',rfl⟩:=ry; exact ne_int (zAg I q (congrArg not zND))
  | str j=>obtain ⟨t',rfl⟩:=ry; exact PySem.EqMixed.ne_int_str (zAg I q (by simp))
  | _=>exact absurd (show false=true from hs) qB1
 | str i =>
  obtain ⟨t,rfl⟩:=rx
  cases y with
  | non=>cases ry; exact PySem.EqNone.ne_str_none (zAg I q (by simp))
  | bl j=>cases ry; exact PySem.EqMixed.ne_str_bool (zAg I q (by simp))
  | int j=>obtain ⟨t',rfl⟩:=ry; exact PySem.EqMixed.ne_str_int (zAg I q (by simp))
  | str j=>obtain ⟨t',rfl⟩:=ry; exact ne_str (zAg I q (congrArg not zNC))
  | _=>exact absurd (show false=true from hs) qB1
 | byt i =>
  obtain ⟨t,rfl⟩:=rx
  cases y with
  | byt j=>obtain ⟨t',rfl⟩:=ry; exact W.ne_bytes (zAg I q (congrArg not zNE))
  | _=>exact absurd (show false=true from hs) qB1
 | _=>cases y <;> exact absurd (show false=true from hs) qB1
theorem zWE:OpR X (compareOp .Lt) (rI0 fun i j=>.bl (decide (i<j))):=opB0 fun _ _ _ _ _ _ _ q=>lt_int q
theorem zWF:OpR X (compareOp .LtE) (rI0 fun i j=>.bl (decide (i≤j))):=opB0 fun _ _ _ _ _ _ _ q=>le_int q
theorem zWG:OpR X (compareOp .Gt) (rI0 fun i j=>.bl (decide (j<i))):=opB0 fun _ _ _ _ _ _ _ q=>gt_int q
theorem zWH:OpR X (compareOp .GtE) (rI0 fun i j=>.bl (decide (j≤i))):=opB0 fun _ _ _ _ _ _ _ q=>ge_int q
theorem zTU:OpR X (compareOp .Is) (fun x y H Q=>y=.non∧Q (.bl (decide (x=.non))) H):=by
 intro pins s σ H x y v u Q I rx ry h
 obtain ⟨rfl,q⟩:=h
 cases ry
 refine is_none_gen (zAg I q ?_)
 cases x <;> first
  | (cases rx; rfl)
  | (obtain ⟨t,rfl⟩:=rx; rfl)
theorem zRo:OpR X (compareOp .IsNot) (fun x y H Q=>y=.non∧Q (.bl (!decide (x=.non))) H):=by
 intro pins s σ H x y v u Q I rx ry h
 obtain ⟨rfl,q⟩:=h
 cases ry
 refine isnot_none_gen (zAg I q ?_)
 cases x <;> first
  | (cases rx; rfl)
  | (obtain ⟨t,rfl⟩:=rx; rfl)
theorem zRl {op:CmpOp}{r:R2} (ho:OpR X (compareOp op) r) (ha:PE X a ta) (hb:PE X b tb) (hm:behindInMarks op b=false):PE X (.Compare a [op] [b] pos) (tOp r ta tb):=by
 intro pins s σ H Q I h
 exact wpAny_Compare1 (binT ha hb I h fun v u s2 x y H2 I2 rx ry q=>ho pins s2 σ H2 x y v u Q I2 rx ry q) hm
noncomputable def zQx (t:TE):TT:=fun σ H Q=>t σ H fun x H'=>∃ k,x=.bl k∧Q k H'
theorem zR8 {op:CmpOp}{r:R2} (ho:OpR X (compareOp op) r) (ha:PE X a ta) (hb:PE X b tb) (hm:behindInMarks op b=false):PT X (.Compare a [op] [b] pos) (zQx (tOp r ta tb)):=by
 intro pins s σ H Q I h
 refine wpAny_isTrue_Compare1 (thn (ha pins s σ H _ I h) fun v s1 ⟨x,H1,I1,r1,q1⟩=>thn (hb pins s1 σ H1 _ I1 q1) fun u s2 ⟨y,H2,I2,r2,q2⟩ =>
  thn (ho pins s2 σ H2 x y v u _ I2 r1 r2 q2) fun c s3 ⟨z,H3,I3,r3,k,e,q3⟩=>?_) hm
 subst e
 cases r3
 exact wpAny_truthy_bool ⟨H3,I3,q3⟩
noncomputable def zMb (r r':R2) (ta tb tc:TE):TE:=fun σ H Q=>ta σ H fun x H1=>tb σ H1 fun y H2=>r x y H2 fun z H3=>∃ k,z=.bl k ∧
 (if k=true then tc σ H3 fun w' H4=>r' y w' H4 Q else Q (.bl false) H3)
theorem zOW {op op':CmpOp}{r r':R2} (ho:OpR X (compareOp op) r) (ho':OpR X (compareOp op') r') (ha:PE X a ta) (hb:PE X b tb) (hc:PE X c tc)
  (hm:lastMarks [op,op'] [b,c]=false:=by with_unfolding_all rfl):PE X (.Compare a [op,op'] [b,c] pos) (zMb r r' ta tb tc):=by
 intro pins s σ H Q I h
 refine Compare_chain (thn (ha pins s σ H _ I h) fun v s1 ⟨x,H1,I1,r1,q1⟩=>chain_link (thn (hb pins s1 σ H1 _ I1 q1) fun u s2 ⟨y,H2,I2,r2,q2⟩ =>
  thn (ho pins s2 σ H2 x y v u _ I2 r1 r2 q2) fun d s3 ⟨z,H3,I3,r3,k,e,q3⟩=>?_)) hm
 subst e
 cases r3
 refine wpAny_truthy_bool ?_
 cases k with
 | false=>exact ite_ff ⟨.bl false,H3,I3,rfl,q3⟩
 | true=>exact ite_tt (chain_last (thn (hc pins s3 σ H3 _ I3 q3) fun w' s4 ⟨z',H4,I4,r4,q4⟩=>ho' pins s4 σ H4 y z' u w' Q I4 r2 r4 q4))
theorem zOI {op op':CmpOp}{r r':R2} (ho:OpR X (compareOp op) r) (ho':OpR X (compareOp op') r') (ha:PE X a ta) (hb:PE X b tb) (hc:PE X c tc)
  (hm:lastMarks [op,op'] [b,c]=false:=by with_unfolding_all rfl):PT X (.Compare a [op,op'] [b,c] pos) (zQx (zMb r r' ta tb tc)):=by
 intro pins s σ H Q I h
 refine isTrue_chain (thn (ha pins s σ H _ I h) fun v s1 ⟨x,H1,I1,r1,q1⟩=>test_link (thn (hb pins s1 σ H1 _ I1 q1) fun u s2 ⟨y,H2,I2,r2,q2⟩ =>
  thn (ho pins s2 σ H2 x y v u _ I2 r1 r2 q2) fun d s3 ⟨z,H3,I3,r3,k,e,q3⟩=>?_)) hm
 subst e
 cases r3
 refine wpAny_truthy_bool ?_
 cases k with
 | false =>
  obtain ⟨k',e',q'⟩:=q3
  cases e'
  exact ite_ff ⟨H3,I3,q'⟩
 | true =>
  refine ite_tt (test_last (thn (hc pins s3 σ H3 _ I3 q3) fun w' s4 ⟨z',H4,I4,r4,q4⟩=>thn (ho' pins s4 σ H4 y z' u w' _ I4 r2 r4 q4) fun d' s5 ⟨z2,H5,I5,r5,k2,e2,q5⟩=>?_))
  subst e2
  cases r5
  exact wpAny_truthy_bool ⟨H5,I5,q5⟩
def TruV (K:W.Frag) (x:V) (H:Hp) (k:Bool):Prop :=
 match x with
 | .non=>k=false
 | .bl b=>k=b
 | .int i=>k=(i != 0)
 | .str y=>y.length≤sizeLine∧k=((y.length:Int) != 0)
 | .byt y=>y.size≤sizeLine∧k=((y.size:Int) != 0)
 | .ref p=>(∃ xs,SqL K H p xs∧k=!xs.isEmpty)∨(∃ xs,SqT K H p xs∧k=!xs.isEmpty)∨∃ kvs,H p=some (.dK kvs)∧k=!kvs.isEmpty
 | _=>False
theorem zLc {κ:Type}{kvs:List (κ × V)}{vs:List (κ × Value)} (r:KV kvs vs):(!vs.isEmpty)=!kvs.isEmpty:=by
 cases r <;> rfl
theorem zGk {xs:List V}{its:List Value} (r:Vals xs its):(!its.toArray.isEmpty)=!xs.isEmpty:=by
 cases r <;> simp
theorem zGd:(sizeLine:Nat)<2 ^ 63:=by rw [sizeLine_eq]; decide
theorem zSD:TruR X (fun x H Q=>∃ k,TruV X.K x H k∧Q k H):=by
 intro pins s σ H x v Q I rx h
 obtain ⟨k,e,q⟩:=h
 have hl:=zGd
 have hs:sizeLine=16777216:=sizeLine_eq
 cases x with
 | non =>
  cases rx
  have e':k=false:=e
  subst e'
  exact truthy_none ⟨H,I,q⟩
 | bl b =>
  cases rx
  have e':k=b:=e
  subst e'
  exact wpAny_truthy_bool ⟨H,I,q⟩
 | int i =>
  obtain ⟨t,rfl⟩:=rx
  have e':k=(i != 0):=e
  subst e'
  exact PySem.P.truthy_int ⟨H,I,q⟩
 | str y =>
  obtain ⟨t,rfl⟩:=rx
  obtain ⟨hy,e'⟩:y.length≤sizeLine∧k=((y.length:Int) != 0):=e
  subst e'
  exact PySem.P.truthy_str (by omega) ⟨H,I.tok _,q⟩
 | byt y =>
  obtain ⟨t,rfl⟩:=rx
  obtain ⟨hy,e'⟩:y.size≤sizeLine∧k=((y.size:Int) != 0):=e
  subst e'
  exact W.truthy_bytes (by omega) ⟨H,I.tok _,q⟩
 | ref p =>
  cases rx
  have e':(∃ xs,SqL X.K H p xs∧k=!xs.isEmpty)∨(∃ xs,SqT X.K H p xs∧k=!xs.isEmpty)∨∃ kvs,H p=some (.dK kvs)∧k=!kvs.isEmpty:=e
  rcases e' with ⟨xs,hx,e'⟩ | ⟨xs,hx,e'⟩ | ⟨kvs,hx,e'⟩
  ·subst e'
   obtain ⟨its,r,pl,hz⟩:=I.list hx
   have hlen:=r.length
   exact wpAny_truthy_list pl.isList (by simp only [qA8]; omega) ⟨H,I.tok _,by rw [zGk r]; exact q⟩
  ·subst e'
   obtain ⟨its,r,pl,hz⟩:=I.tuple hx
   have hlen:=r.length
   exact truthy_tuple pl (by simp only [qA8]; omega) ⟨H,I.tok _,by rw [zGk r]; exact q⟩
  ·subst e'
   obtain ⟨hz,hS,vs,r,m⟩:kvs.length≤sizeLine∧(p == sysModules)=false∧∃ vs,KV kvs vs∧s.heap.DictOf (zAn X.prog X.w) p vs:=I.hok p _ hx
   have hlen:kvs.length=vs.length:=Paired.length r
   exact wpAny_truthy_dict hS m (by omega) ⟨H,I.tok _,by rw [zLc r]; exact q⟩
 | _=>exact (show False from e).elim
theorem zOH (ha:PE X a ta) (he:∀ whole,isTrue a X.env whole=(do let v ← whole; standAt a.pos; holding [v] (truthy v))) :
  PT X a (fun σ H Q=>ta σ H fun x H'=>∃ k,TruV X.K x H' k∧Q k H'):=by
 intro pins s σ H Q I h
 exact isTrue_plain (thn (ha pins s σ H _ I h) fun v s1 ⟨x,H1,I1,r1,q1⟩=>zSD pins s1 σ H1 x v Q I1 r1 q1) (he _)
theorem zL2:OpR X (binaryOp .Add) (fun x y H Q=>∃ i j,x=.str i∧y=.str j∧i.length+j.length≤sizeLine∧Q (.str (i++j)) H):=by
 intro pins s σ H x y v u Q I rx ry h
 obtain ⟨i,j,rfl,rfl,hz,q⟩:=h
 obtain ⟨t,rfl⟩:=rx
 obtain ⟨t',rfl⟩:=ry
 exact add_str (fun t' tk=>⟨.str (i++j),H,I.tok _,⟨_,rfl⟩,q⟩) hz
theorem zCP {x:V}{us:List Value} (r:Vals [x] us):∃ u,us=[u]∧RelV x u:=by
 cases r with
 | cons r1 r2=>cases r2; exact ⟨_,rfl,r1⟩
theorem zKM {x y:V}{us:List Value} (r:Vals [x,y] us):∃ u w',us=[u,w']∧RelV x u∧RelV y w':=by
 cases r with
 | cons r1 r2 =>
  cases r2 with
  | cons r3 r4=>cases r4; exact ⟨_,_,rfl,r1,r3⟩
theorem zNW (hc:X.calm=true):zAV X (.builtin "max") (fun xs H Q=>∃ i j,xs=[.int i,.int j]∧Q (.int (if j>i then j else i)) H):=by
 intro pins s σ H xs us Q I r h
 obtain ⟨i,j,rfl,q⟩:=h
 obtain ⟨u,w',rfl,⟨t,rfl⟩,⟨t',rfl⟩⟩:=zKM r
 refine max_two_ints (I.ok.hd hc) fun h' tk k=>⟨_,H,I.kept k,?_,q⟩
 by_cases hj:j>i
 ·rw [if_pos hj,if_pos hj]; exact ⟨_,rfl⟩
 ·rw [if_neg hj,if_neg hj]; exact ⟨_,rfl⟩
theorem zNV (hc:X.calm=true):zAV X (.builtin "min") (fun xs H Q=>∃ i j,xs=[.int i,.int j]∧Q (.int (if j<i then j else i)) H):=by
 intro pins s σ H xs us Q I r h
 obtain ⟨i,j,rfl,q⟩:=h
 obtain ⟨u,w',rfl,⟨t,rfl⟩,⟨t',rfl⟩⟩:=zKM r
 refine min_two_ints (I.ok.hd hc) fun h' tk k=>⟨_,H,I.kept k,?_,q⟩
 by_cases hj:j<i
 ·rw [if_pos hj,if_pos hj]; exact ⟨_,rfl⟩
 ·rw [if_neg hj,if_neg hj]; exact ⟨_,rfl⟩
theorem zIs:zAV X (.type "int") (fun xs H Q=>(∃ i,xs=[.int i]∧Q (.int i) H)∨∃ k,xs=[.bl k]∧Q (.int (if k then 1 else 0)) H):=by
 intro pins s σ H xs us Q I r h
 rcases h with ⟨i,rfl,q⟩ | ⟨k,rfl,q⟩
 ·obtain ⟨u,rfl,t,rfl⟩:=zCP r
  exact call_int_int ⟨.int i,H,I,⟨_,rfl⟩,q⟩
 ·obtain ⟨u,rfl,r1⟩:=zCP r
  cases r1
  exact call_int_bool ⟨.int (if k then 1 else 0),H,I.tok _,⟨_,rfl⟩,q⟩
end
theorem RelO.some_of {v:V}{o:Option Value} (r:RelO (some v) o):∃ u,o=some u∧RelV v u:=by
 cases o with
 | none=>exact (show False from r).elim
 | some u=>exact ⟨u,rfl,r⟩
structure Room (k:Nat) (A:Around):Prop where
 hd:A.handled=none
 dp:A.depth+3*k+5<recursionLimit
 un:A.units+16*k+200<cLine
 gd:A.guards=some []
theorem Room.mono {j k:Nat}{A:Around} (r:Room k A) (h:j≤k):Room j A:=⟨r.hd,by have:=r.dp; omega,by have:=r.un; omega,r.gd⟩
theorem Room.deeper {k:Nat}{A:Around} (r:Room (k+1) A) (env:Env):Room k (A.deeper env) :=
 ⟨r.hd,by have:=r.dp; show A.depth+1+3*k+5<_; omega,by have:=r.un; show A.units+3+16*k+200<_; omega,r.gd⟩
theorem Room.depth {k:Nat}{A:Around} (r:Room k A):A.depth<recursionLimit:=by have:=r.dp; omega
theorem Room.units {k:Nat}{A:Around} (r:Room k A):A.units+64<cLine:=by have:=r.un; omega
theorem Room.units0 {k:Nat}{A:Around} (r:Room k A):A.units<cLine:=by have:=r.un; omega
noncomputable def tNil:TA:=fun _ H Q=>Q [] H
noncomputable def zVZ (ta:TE) (tr:TA):TA:=fun σ H Q=>ta σ H fun x H1=>tr σ H1 fun xs H2=>Q (x::xs) H2
section
variable {X:Cx}{e:Expr}{es:List Expr}{te:TE}{t:TA}{pos:Pos}
theorem zQ2:PA X [] tNil:=fun _ _ _ _ H Q I h=>Calls.spliced_nil ⟨[],H,I,.nil,h⟩
theorem zMC (ha:PE X e te) (hr:PA X es t) (hs:starEach (e::es) X.env=(false,eval e X.env)::starEach es X.env:=by rfl):PA X (e::es) (zVZ te t):=by
 intro pos pins s σ H Q I h
 rw [hs]
 show wpAny _ _ (spliced ((false,eval e X.env)::backTo pos (starEach es X.env))) _ _ s
 refine Calls.spliced_cons (thn (ha pins s σ H _ I h) fun u s1 ⟨x,H1,I1,r1,q1⟩=>?_)
 exact thn (hr pos pins s1 σ H1 _ I1 q1) fun us s2 ⟨xs,H2,I2,r2,q2⟩=>⟨x::xs,H2,I2,.cons r1 r2,q2⟩
noncomputable def tTup (t:TA):TE:=fun σ H Q=>t σ H fun xs H1=>xs.length≤sizeLine∧∀ p,H1 p=none→Q (.ref p) (upd H1 p (.tup xs))
noncomputable def tLst (t:TA):TE:=fun σ H Q=>t σ H fun xs H1=>xs.length≤sizeLine∧∀ p,H1 p=none→Q (.ref p) (upd H1 p (.lst xs))
theorem zTt {x1} (h:PA X es t):PE X (.Tuple es x1 pos) (tTup t):=by
 intro pins s σ H Q I hq
 refine wpAny_Tuple_spliced (thn (h pos pins s σ H _ I hq) fun us s1 ⟨xs,H1,I1,r,z,q⟩=>⟨by rw [← r.length]; exact z,?_⟩)
 have hf:H1 s1.heap.objs.size=none:=I1.hok.fresh (qB0 _)
 refine ⟨.ref s1.heap.objs.size,upd H1 s1.heap.objs.size (.tup xs),I1.laid (t':=s1.toks) (fun b u e=>qA5 _ e) (qB0 _) ?_,rfl,q _ hf⟩
 exact ⟨z,us,r,⟨_,qB4 _ rfl,rfl,_,rfl⟩⟩
theorem zTy (h:PA X es t):PE X (.List es pos) (tLst t):=by
 intro pins s σ H Q I hq
 refine wpAny_List_spliced (thn (h pos pins s σ H _ I hq) fun us s1 ⟨xs,H1,I1,r,z,q⟩=>⟨by rw [← r.length]; exact z,?_⟩)
 have hf:H1 s1.heap.objs.size=none:=I1.hok.fresh (qB0 _)
 refine ⟨.ref s1.heap.objs.size,upd H1 s1.heap.objs.size (.lst xs),I1.laid (t':=s1.toks) (fun b u e=>qA5 _ e) (qB0 _) ?_,rfl,q _ hf⟩
 exact ⟨z,us,0,r,qB4 _ rfl⟩
end
noncomputable abbrev Sp:=List V→Hp→VK→XK→Prop
noncomputable abbrev CXT:=List Env→Hp→Shared→XK→Value→Shared→Prop
structure Env0 (P:Program) (w:World) (K:W.Frag) (mg:Str→Option Value) (base:Heap) (A:Around) (outer:List Env) (s:Shared) (H:Hp):Prop where
 frames:A.frames=some outer
 mod:Mod K mg base
 bs:∀ b o,base.get? b=some o→s.heap.get? b=some o∧H b=none
 bsz:base.objs.size≤s.heap.objs.size
 funs:s.heap.FunFrames base outer
 frf:∀ b∈frs outer,H b=none
 hok:HOk P w H s.heap
 bare:AllBare s.gens
def CE (outer:List Env) (P:Program) (w:World) (H:Hp) (s:Shared) (Q:VK) (u:Value) (s':Shared):Prop :=
 ∃ v H',s'.os=s.os∧AllBare s'.gens∧Un (frs outer) [] H H' s.heap s'.heap∧HOk P w H' s'.heap∧RelV v u∧Q v H'
def CR (CX:CXT) (outer:List Env) (P:Program) (w:World) (H:Hp) (s:Shared) (Q:VK) (E:XK) (r:Result) (s':Shared):Prop :=
 match r with
 | .ok (.ret u)=>CE outer P w H s Q u s'
 | .ok _=>False
 | .error e=>CX outer H s E e s'
structure FnOk (P:Program) (w:World) (K:W.Frag) (mg:Str→Option Value) (base:Heap) (CX:CXT) (k:Nat) (f:Addr) (fd:FuncData) (ps:List Str) (sp:Sp):Prop where
 len:∀ vs H Q E,sp vs H Q E→vs.length=ps.length
 run:∀ (A:Around) (outer:List Env) (s:Shared) (H:Hp) (args:Args) (us:List Value) (vs:List V) (Q:VK) (E:XK),Room k A→Env0 P w K mg base A outer s H→BindsTo s fd args (ps.zip us)→Vals vs us→sp vs H Q E →
  codeAny (model P w) A (.call (.ref f) args) (CR CX outer P w H s Q E) s
theorem FnOk.imp {P:Program}{w:World}{K:W.Frag}{mg:Str→Option Value}{base:Heap}{CX:CXT}{k:Nat}{f:Addr}{fd:FuncData}{ps:List Str}{sp sp':Sp} (F:FnOk P w K mg base CX k f fd ps sp)
  (h:∀ vs H Q E,sp' vs H Q E→sp vs H Q E):FnOk P w K mg base CX k f fd ps sp' :=
 ⟨fun vs H Q E q=>F.len vs H Q E (h _ _ _ _ q),fun A outer s H args us vs Q E hr he hb hv hs=>F.run A outer s H args us vs Q E hr he hb hv (h _ _ _ _ hs)⟩
section
variable {X:Cx}{pins:List (Addr × Obj)}{σ:St}{H:Hp}{s s':Shared}
theorem Inv.env0 (I:Inv X pins σ H s):Env0 X.prog X.w X.K X.mg X.base X.A X.stack s H :=
 ⟨I.ok.frames,I.ok.mod,I.bs,qC5 I.ok.bsz I.sz,I.stack,I.stkFree,I.hok,I.bare⟩
theorem Inv.after {Q:VK}{u:Value} (I:Inv X pins σ H s) (h:CE X.stack X.prog X.w H s Q u s'):EP X pins σ Q u s':=by
 obtain ⟨v,H',os,bare,un,hok,r,q⟩:=h
 obtain ⟨hh,g,d,t,os'⟩:=s'
 obtain rfl:os'=s.os:=os
 exact ⟨v,H',I.call (h':=hh) (g':=g) (d':=d) (t':=t) (ch:=[]) un hok bare (fun b z=>absurd z (by simp)),r,q⟩
end
noncomputable def zQA (sp:Sp) (dvs:List V) (E:XK) (t:TA):TE:=fun σ H Q=>t σ H fun vs H1=>sp (vs++dvs) H1 Q E
def zHk (K:W.Frag) (fd:FuncData) (ps:List Str) (ds:List Value):Prop :=
 ∀ (s:Shared) (us:List Value),K.In s.heap→(us++ds).length=ps.length→BindsTo s fd ⟨us,[]⟩ (ps.zip (us++ds))
theorem zHk.all {K:W.Frag}{fd:FuncData}{ps:List Str} (h:∀ us:List Value,us.length=ps.length→bindArgs fd ⟨us,[]⟩=pure (ps.zip us)):zHk K fd ps []:=fun s us _ hl=>by
 rw [qH9] at hl ⊢
 exact .of_eq (h us hl)
def zOe (CX:CXT) (X:Cx) (E:XK):Prop:=∀ (pins:List (Addr × Obj)) (σ:St) (H:Hp) (s:Shared) (e:Value) (s':Shared),Inv X pins σ H s→CX X.stack H s E e s'→X.xe e s'
section
variable {X:Cx}{CX:CXT}{k:Nat}{f C:Addr}{fd:FuncData}{ps:List Str}{sp:Sp}{dvs:List V}{ds:List Value}{E:XK}{x m:Str}{p pos apos:Pos}{e o:Expr}{es:List Expr}{ta:TE}{t:TA}
theorem zTf {pins:List (Addr × Obj)}{σ:St}{H:Hp}{s:Shared}{Q:VK}{us:List Value}{vs:List V} (F:FnOk X.prog X.w X.K X.mg X.base CX k f fd ps sp) (hr:Room k X.A) (hb:zHk X.K fd ps ds) (hd:Vals dvs ds) (hx:zOe CX X E)
  (I:Inv X pins σ H s) (r:Vals vs us) (h:sp (vs++dvs) H Q E):wpAny (model X.prog X.w) X.A (call (.ref f) us) (EP X pins σ Q) X.xe s:=by
 have r2:Vals (vs++dvs) (us++ds):=r.append hd
 have hl:(us++ds).length=ps.length:=by rw [← r2.length]; exact F.len _ _ _ _ h
 refine wpAny_call (codeAny_mono (F.run X.A X.stack s H ⟨us,[]⟩ (us++ds) (vs++dvs) Q E hr I.env0 (hb s us I.kIn hl) r2 h) fun r s' hq=>?_)
 cases r with
 | error e=>exact hx pins σ H s e s' I hq
 | ok fl =>
  cases fl with
  | ret u=>exact I.after hq
  | next=>exact False.elim hq
  | brk=>exact False.elim hq
  | cont=>exact False.elim hq
theorem zRm (F:FnOk X.prog X.w X.K X.mg X.base CX k f fd ps sp) (hr:Room k X.A) (hg:Gl X x) (hm:X.mg x=some (.ref f)) (hk:W.keepIn X.K (.ref f)=true) (hb:zHk X.K fd ps ds) (hd:Vals dvs ds) (hx:zOe CX X E)
  (ha:PA X (e::es) t) (hdb:(x == ("__debug__":Str))=false:=by decide) (he:starEach (e::es) X.env=(false,eval e X.env)::starEach es X.env:=by rfl) (hpl:(backTo pos (starEach es X.env)).any (·.1)=false:=by rfl) :
  PE X (.Call (.Name x p) (e::es) [] pos) (zQA sp dvs E t):=by
 intro pins s σ H Q I h
 refine wpAny_Call_Name_kw (zRM I hg hm ?_ hdb)
 refine W.callWith_K (h₀:=X.base) I.ok.mod.kin hk (thn (ha pos pins s σ H _ I h) fun us s1 ⟨vs,H1,I1,r,q⟩=>⟨I1.kIn,?_⟩) he hpl
 exact zTf F hr hb hd hx I1 r q
end
structure zHj (N P:List Str) (sc:Scope):Prop where
 kind:sc.kind=.function
 co:sc.isCoroutine=false
 gen:sc.isGenerator=false
 nd:N.Nodup
 pre:N.take P.length=P
 par:∀ x∈P,sc.names.lookup x=some .local∨sc.names.lookup x=some .cell
 nofree:∀ y∈sc.names,y.2≠.free
theorem zIx {kindOf:Str→Option NameKind}{x:Str}:∀ {binds:List (Str × Value)}{m:Str→Option Value},(∀ v,(x,v)∉binds)→bindL kindOf binds m x=m x
 | [],_,_=>rfl
 | (n,v)::r,m,h=>by
  unfold bindL
  rw [zIx fun w hw=>h w (qC0 _ hw)]
  split
  ·have:x≠n:=by rintro rfl; exact h v qD4
   simp [this]
  ·rfl
theorem zIz {kindOf:Str→Option NameKind}{x:Str}:∀ {binds:List (Str × Value)}{m:Str→Option Value},(∀ v,(x,v)∉binds)→bindC kindOf binds m x=m x
 | [],_,_=>rfl
 | (n,v)::r,m,h=>by
  unfold bindC
  rw [zIz fun w hw=>h w (qC0 _ hw)]
  split
  ·rfl
  ·have:x≠n:=by rintro rfl; exact h v qD4
   simp [this]
theorem zIy {kindOf:Str→Option NameKind}{x:Str}{v:Value}:∀ {P:List Str}{vs:List Value}{i:Nat}{m:Str→Option Value},P.Nodup→P[i]?=some x→vs[i]?=some v→kindOf x=some .local →
  bindL kindOf (P.zip vs) m x=some v
 | [],_,_,_,_,h,_,_=>by simp at h
 | _::_,[],_,_,_,_,h,_=>by simp at h
 | p::P,w::vs,0,m,nd,h1,h2,hk=>by
  simp at h1 h2; subst h1; subst h2
  show bindL kindOf ((p,w)::P.zip vs) m p=_
  unfold bindL
  rw [zIx fun v hv=>(qM5.mp nd).1 (qO7 hv).1,if_pos hk]
  simp
 | p::P,w::vs,i+1,m,nd,h1,h2,hk=>by
  show bindL kindOf ((p,w)::P.zip vs) m x=_
  unfold bindL
  exact zIy (i:=i) (qM5.mp nd).2 (by simpa using h1) (by simpa using h2) hk
theorem zIA {kindOf:Str→Option NameKind}{x:Str}{v:Value}:∀ {P:List Str}{vs:List Value}{i:Nat}{m:Str→Option Value},P.Nodup→P[i]?=some x→vs[i]?=some v→kindOf x≠some .local →
  bindC kindOf (P.zip vs) m x=some v
 | [],_,_,_,_,h,_,_=>by simp at h
 | _::_,[],_,_,_,_,h,_=>by simp at h
 | p::P,w::vs,0,m,nd,h1,h2,hk=>by
  simp at h1 h2; subst h1; subst h2
  show bindC kindOf ((p,w)::P.zip vs) m p=_
  unfold bindC
  rw [zIz fun v hv=>(qM5.mp nd).1 (qO7 hv).1,if_neg hk]
  simp
 | p::P,w::vs,i+1,m,nd,h1,h2,hk=>by
  show bindC kindOf ((p,w)::P.zip vs) m x=_
  unfold bindC
  exact zIA (i:=i) (qM5.mp nd).2 (by simpa using h1) (by simpa using h2) hk
noncomputable def start (N:List Str) (vs:List V):St:=vs.map some++qJ8 (N.length - vs.length) none
noncomputable def cxOf (CX:CXT) (P:Program) (w:World) (K:W.Frag) (mg:Str→Option Value) (base:Heap) (N:List Str) (qual:Str) (scope:Scope) (f:Addr) (cd:Value) (A:Around) (outer:List Env) (s:Shared) (H:Hp) (E:XK):Cx where
 prog:=P
 w:=w
 K:=K
 mg:=mg
 base:=base
 A:=A.deeper (envOfC qual scope s.heap.objs.size f cd)
 N:=N
 s₀:=s
 H₀:=H
 env:=envOfC qual scope s.heap.objs.size f cd
 outer:=outer
 stack:=envOfC qual scope s.heap.objs.size f cd::outer
 ex:=[]
 calm:=true
 fn:=fun _=>true
 pn:=[]
 xe:=fun e s'=>wpAny (model P w) (A.deeper (envOfC qual scope s.heap.objs.size f cd)) (leaving (envOfC qual scope s.heap.objs.size f cd) e) (fun _ s''=>CX outer H s E e s'') (fun e' s''=>CX outer H s E e' s'') s'
theorem zKE {sc:Scope}{n:Nat}{x:Str} (h:sc.names.lookup x=some .cell):∃ c,(cellsFrom n sc.names []).lookup x=some c:=by
 have q:=W.cellsFrom_some sc.names n [] (.inl h)
 exact qI3.mp q
theorem zN9 {CX:CXT}{P:Program}{w:World}{K:W.Frag}{mg:Str→Option Value}{base:Heap}{N ps:List Str}{qual:Str}{scope:Scope}{f:Addr}{cd:Value}{A:Around}{outer:List Env}{s s1:Shared}{H:Hp}{E:XK}{us:List Value}{vs:List V}
  (S:zHj N ps scope) (hd:A.handled=none) (e0:Env0 P w K mg base A outer s H) (hl:vs.length=ps.length) (r:Vals vs us)
  (x:InCallC s s.heap.objs.size (bindL (envOfC qual scope s.heap.objs.size f cd).kindOf (ps.zip us) fun _=>none) (cellsFrom (s.heap.objs.size+1) scope.names []) (bindC (envOfC qual scope s.heap.objs.size f cd).kindOf (ps.zip us) fun _=>none) s1) :
  Inv (cxOf CX P w K mg base N qual scope f cd A outer s H E) [] (start N vs) H s1:=by
 have hpl:ps.length≤N.length:=by have:=congrArg qK5 S.pre; rw [qH5] at this; omega
 obtain ⟨h1,tk,rfl,hk⟩:=x.done
 have noA:∀ b:Addr,b∉(cxOf CX P w K mg base N qual scope f cd A outer s H E).ex:=fun b z=>absurd (show b∈([]:List Addr) from z) (by simp)
 refine ⟨⟨e0.mod,S.kind,rfl,rfl,qB0 _,fun y z c h1 h2=>?_,fun y hy=>?_,fun y c _ h=>?_,fun _=>hd,Around.frames_deeper e0.frames,.inr ⟨rfl,rfl⟩,fun b z=>absurd z (noA b),e0.bs,e0.bsz,fun b _ _=>noA b,fun b z=>absurd z (noA b),e0.funs,e0.frf⟩,
  rfl,e0.bare,Un.kept hk,⟨_,x.toInCall.ns,fun i y v h1 h2 h3=>?_⟩,fun y c h=>⟨_,x.cell y c h⟩,e0.hok.fresh (qB0 _),fun y c h=>?_,fun p hp=>absurd (show p∈([]:List (Addr × Obj)) from hp) (by simp),e0.hok.kept hk,?_⟩
 ·exact name_of_addr x.apart (PySem.mem_of_lookup h1) (PySem.mem_of_lookup h2)
 ·have hy:scope.names.lookup y=some .cell∨scope.names.lookup y=some .free:=hy
  rcases hy with hy | hy
  ·exact zKE hy
  ·exact absurd rfl (S.nofree _ (PySem.mem_of_lookup hy))
 ·exact qG7 (x.above y c (PySem.mem_of_lookup h))
 ·have hi:i<vs.length:=by
   unfold start at h2
   by_cases hi:i<vs.length
   ·exact hi
   ·rw [qA0 (by simpa using hi)] at h2
    rw [qI6] at h2
    split at h2 <;> cases h2
  have ha:vs[i]?=some v:=by
   unfold start at h2
   rw [qA7 (by simpa using hi),qB7] at h2
   cases e:vs[i]? with
   | none=>rw [e] at h2; cases h2
   | some a=>rw [e] at h2; cases h2; rfl
  obtain ⟨u,hu,rv⟩:=r.get ha
  have hp:ps[i]?=some y:=by
   rw [← S.pre,List.getElem?_take_of_lt (by omega)]; exact h1
  have ndP:ps.Nodup:=by rw [← S.pre]; exact S.nd.sublist (qG1 _ _)
  refine ⟨u,rv,?_⟩
  rcases S.par y (qB5 hp) with k | k
  ·exact .inl ⟨k,zIy ndP hp hu k⟩
  ·obtain ⟨c,e⟩:=zKE (n:=s.heap.objs.size+1) k
   refine .inr ⟨.inl k,c,e,?_⟩
   have q:=x.cell y c e
   rw [zIA ndP hp hu (by show scope.names.lookup y≠_; rw [k]; decide)] at q
   exact q
 ·exact e0.hok.fresh (qG7 (x.above y c (PySem.mem_of_lookup h)))
 ·unfold start
  show _=N.length
  rw [qB2,qA2,qH7]
  omega
theorem zXb {CX:CXT}{P:Program}{w:World}{K:W.Frag}{mg:Str→Option Value}{base:Heap}{k:Nat}{f:Addr}{name qual:Str}{params:Arguments}{body:List Stmt}{scope:Scope}{dV kV doc pm cdv ct oc:Value}{an od:Option Addr}
  {osl:Array (Option Value)}{N ps:List Str}{sp:Sp} (lk:K.lookup f=some ⟨oc,od,.func (W.fnOf name qual params body scope dV kV doc pm an cdv ct),osl⟩) (hcd:W.codeIn K cdv qual=true) (S:zHj N ps scope)
  (len:∀ vs H Q E,sp vs H Q E→vs.length=ps.length)
  (hbody:∀ (A:Around) (outer:List Env) (s:Shared) (H:Hp) (vs:List V) (Q:VK) (E:XK),Room k (A.deeper (envOfC qual scope s.heap.objs.size f cdv))→sp vs H Q E →
   ∃ t,PSs (cxOf CX P w K mg base N qual scope f cdv A outer s H E) body t∧t { nx:=fun _ H'=>Q .non H',rt:=Q } (start N vs) H) :
  FnOk P w K mg base CX (k+1) f (W.fnOf name qual params body scope dV kV doc pm an cdv ct) ps sp:=by
 refine ⟨len,fun A outer s H args us vs Q E hr e0 hb r hsp=>?_⟩
 have hl:=len _ _ _ _ hsp
 have KX:K.In s.heap:=e0.mod.kin.keeps fun b o e=>(e0.bs b o e).1
 have lim:s.heap.NoLimit:=e0.mod.nolimit.keeps fun b o e=>(e0.bs b o e).1
 have hkind:∀ y∈ps.zip us,scope.names.lookup y.1=some .local∨(scope.names.lookup y.1=some .cell∧((cellsFrom (s.heap.objs.size+1) scope.names []).lookup y.1).isSome=true):=fun ⟨n,v⟩ hy=>by
  rcases S.par n (qO7 hy).1 with q | q
  ·exact .inl q
  ·exact .inr ⟨q,W.cellsFrom_some _ _ _ (.inl q)⟩
 refine codeAny_call_function hr.depth (KX _ _ lk) rfl S.co S.gen rfl (W.codeRec_of KX hcd) (hb _ _ _ _ ?_)
 refine wpAny_newFunctionEnv_cells S.kind hkind fun env he s1 x=>?_
 subst he
 refine ⟨lim.keeps x.toInCall.keep,codeAny_func ?_⟩
 obtain ⟨t,ht,hq⟩:=hbody A outer s H vs Q E (hr.deeper _) hsp
 have I:Inv (cxOf CX P w K mg base N qual scope f cdv A outer s H E) [] (start N vs) H s1:=zN9 S hr.hd e0 hl r x
 refine wpAny_mono (ht [] s1 (start N vs) H _ I hq) (fun fl s' hs=>?_) fun e s' hs=>hs
 have fin:∀ {σ':St}{H':Hp}{v:V}{u:Value},Inv (cxOf CX P w K mg base N qual scope f cdv A outer s H E) [] σ' H' s'→RelV v u→Q v H'→CE outer P w H s Q u s' :=
  fun {σ' H' v u} J rv q=>⟨v,H',J.os,J.bare,J.base,J.hok,rv,q⟩
 cases fl with
 | ret u =>
  obtain ⟨v,σ',H',J,rv,q⟩:=hs
  exact fin J rv q
 | next =>
  obtain ⟨σ',H',J,q⟩:=hs
  exact fin (v:=V.non) (u:=Value.none) J rfl q
 | brk =>
  obtain ⟨_,_,_,q⟩:=hs
  exact False.elim q
 | cont =>
  obtain ⟨_,_,_,q⟩:=hs
  exact False.elim q
section
variable {X:Cx}{x:Str}{p pos:Pos}{e:Expr}{es:List Expr}{t:TA}{id T:String}{r:List V→Hp→VK→Prop}
noncomputable def tCB (r:List V→Hp→VK→Prop) (t:TA):TE:=fun σ H Q=>t σ H fun vs H1=>r vs H1 Q
theorem zOY (hc:zAV X (.builtin id) r) (hg:Gl X x) (hm:X.mg x=none) (hv:bootBuiltins x=some (.builtin id)) (ha:PA X (e::es) t) (hn:x ≠ "__name__":=by decide) (hdb:(x == ("__debug__":Str))=false:=by decide)
  (he:starEach (e::es) X.env=(false,eval e X.env)::starEach es X.env:=by rfl) (hpl:(backTo pos (starEach es X.env)).any (·.1)=false:=by rfl):PE X (.Call (.Name x p) (e::es) [] pos) (tCB r t):=by
 intro pins s σ H Q I h
 refine wpAny_Call_Name_kw (zF8 I hg hm hv ?_ hn hdb)
 exact PyProof.Rows.callWith_builtin1 (thn (ha pos pins s σ H _ I h) fun us s1 ⟨vs,H1,I1,r1,q1⟩=>hc pins s1 σ H1 vs us Q I1 r1 q1) he hpl
theorem zEW (hc:zAV X (.type T) r) (hg:Gl X x) (hm:X.mg x=none) (hv:bootBuiltins x=some (.type T)) (ha:PA X (e::es) t) (hn:x ≠ "__name__":=by decide) (hdb:(x == ("__debug__":Str))=false:=by decide)
  (he:starEach (e::es) X.env=(false,eval e X.env)::starEach es X.env:=by rfl) (hpl:(backTo pos (starEach es X.env)).any (·.1)=false:=by rfl):PE X (.Call (.Name x p) (e::es) [] pos) (tCB r t):=by
 intro pins s σ H Q I h
 refine wpAny_Call_Name_kw (zF8 I hg hm hv ?_ hn hdb)
 exact PyProof.Rows.callWith_type1 (thn (ha pos pins s σ H _ I h) fun us s1 ⟨vs,H1,I1,r1,q1⟩=>hc pins s1 σ H1 vs us Q I1 r1 q1) he hpl
end
end L2
namespace HT
open PySem PyProof.Rows
noncomputable def lexLt:List Int→List Int→Bool
 | [],[]=>false
 | [],_::_=>true
 | _::_,[]=>false
 | x::xs,y::ys=>if x=y then lexLt xs ys else decide (x<y)
theorem lexLt_cons (x y:Int) (xs ys:List Int):lexLt (x::xs) (y::ys)=if x=y then lexLt xs ys else decide (x<y):=rfl
theorem zGS:lexLt [] []=false:=rfl
theorem zFL (y:Int) (ys:List Int):lexLt [] (y::ys)=true:=rfl
theorem zFM (x:Int) (xs:List Int):lexLt (x::xs) []=false:=rfl
theorem zPC (A:Around) (s:Shared) (a:Int) (t:Tok) (c:Int) (u:Tok):∃ e,SeqAt.EqAt A s (.int a t) (.int c u) e∧(e=true↔a=c) :=
 ⟨(a == c),SeqAt.EqAt.int_int a t c u,by simp⟩
theorem zOF (A:Around) (s:Shared) (a:Int) (t:Tok) (c:Int) (u:Tok) (prog:Program) (w:World) (E:Value→Shared→Prop) (Q:Value→Shared→Prop) (h:Q (.bool (decide (a<c))) s) :
  wpAny (model prog w) A (richCompare .Lt (.int a t) (.int c u)) Q E s :=
 (PyProof.Rows.lt_int h:wpAny (model prog w) A (compareOp .Lt (.int a t) (.int c u)) Q E s)
section
open PySem.SeqAt
open PySem.AutoSeq1 (wpAny_loadPart')
open PySem.MeetsSeq PySem.MeetsSeq2 PySem.MeetsSeq3
theorem tuple_lt_ints (l b:Addr) (items items2:Array Value) (n n2:Nat) (dd dd2:Option Addr) (sl sl2:Array (Option Value)) (ns ms:List Int) (hi:IntsAre items.toList ns) (hj:IntsAre items2.toList ms) :
  Meets (Builtin.«tuple.__lt__» ⟨[.ref l,.ref b],[]⟩)
   (fun _ R s=>s.heap.get? l=some { cls:=.type "tuple",dict:=dd,data:=.seq items n,slots:=sl }∧s.heap.get? b=some { cls:=.type "tuple",dict:=dd2,data:=.seq items2 n2,slots:=sl2 } ∧
    R (.ok (.ret (.bool (lexLt ns ms)))) s) :=
 .of_wp fun prog w A R s h=>by
  obtain ⟨hp,g,d,tk,os⟩:=s; obtain ⟨hl,hb,h⟩:=h
  have f2:=AutoSeq1.sub_tuple_tuple
  have z1:items.size=ns.length:=by rw [← hi.length]; simp
  have z2:items2.size=ms.length:=by rw [← hj.length]; simp
  wp_walk using wpAny_loadPart' hl,wpAny_loadPart' hb,wpAny_forIn_list _ (fun rest b s'=>b.1=none∧s'=⟨hp,g,d,tk,os⟩∧∃ (vs ws:List Value) (ns' ms':List Int),rest=vs.zip ws ∧
   IntsAre vs ns'∧IntsAre ws ms'∧ns'.length+items2.size=ms'.length+items.size∧R (.ok (.ret (.bool (lexLt ns' ms')))) ⟨hp,g,d,tk,os⟩) _
  case turn =>
   rintro ⟨y,x⟩ rest b s' ⟨hb',rfl,vs,ws,ns',ms',hz,hvi,hwi,hlen,hR⟩
   cases hvi with
   | nil=>rw [qR1] at hz; cases hz
   | cons a t hvi' =>
    cases hwi with
    | nil=>rw [qQ4] at hz; cases hz
    | cons c u hwi' =>
     rw [qK4] at hz
     injection hz with hyx hrest
     injection hyx with hy hx
     subst hy hx
     rw [lexLt_cons] at hR
     simp only [qD0] at hlen
     obtain ⟨e,he,hiff⟩:=zPC A.in1 ⟨hp,g,d,tk,os⟩ a t c u
     refine wpAny_bind (he prog w _ _ ?_)
     cases e with
     | true =>
      rw [if_pos (hiff.mp rfl)] at hR
      wp_walk
      exact ⟨rfl,rfl,_,_,_,_,hrest,hvi',hwi',by omega,hR⟩
     | false =>
      rw [if_neg (fun q=>absurd (hiff.mpr q) qB1)] at hR
      have hri:=zOF A.in1 ⟨hp,g,d,tk,os⟩ a t c u prog w
      wp_walk using hri
      exact ⟨_,rfl,by simpa using hR⟩
  case fin =>
   rintro ⟨b1,b2⟩ s' ⟨hb',rfl,vs,ws,ns',ms',hz,hvi,hwi,hlen,hR⟩
   simp only at hb'
   subst hb'
   have hv:lexLt ns' ms'=decide (items.size<items2.size):=by
    cases hvi with
    | nil =>
     cases hwi with
     | nil =>
      simp only [qI0] at hlen
      rw [zGS]
      exact (decide_eq_false (by omega)).symm
     | cons c u hw =>
      simp only [qI0,qD0] at hlen
      rw [zFL]
      exact (decide_eq_true (by omega)).symm
    | cons a t hv =>
     cases hwi with
     | nil =>
      simp only [qI0,qD0] at hlen
      rw [zFM]
      exact (decide_eq_false (by omega)).symm
     | cons c u hw =>
      rw [qK4] at hz
      cases hz
   rw [hv] at hR
   wp_walk
   exact ⟨_,rfl,by simpa [Builtin.Tuple.tupleCompareSizes] using hR⟩
  case h =>
   exact ⟨rfl,rfl,items.toList,items2.toList,ns,ms,rfl,hi,hj,by omega,h⟩
end
section
variable {prog:Program}{w:World}{A:Around}{E:Value→Shared→Prop}{s:Shared}
theorem lt_tupInts {l b:Addr}{items items2:Array Value}{ns ms:List Int}{Q:Value→Shared→Prop} (hl:IsTup s.heap l items) (hb:IsTup s.heap b items2) (hi:IntsAre items.toList ns) (hj:IntsAre items2.toList ms)
  (hu:A.units<cLine) (h:Q (.bool (lexLt ns ms)) s):wpAny (model prog w) A (compareOp .Lt (.ref l) (.ref b)) Q E s:=by
 obtain ⟨⟨cls,dd,data,sl⟩,ho,hc,n,hd⟩:=id hl
 obtain ⟨⟨cls2,dd2,data2,sl2⟩,ho2,hc2,n2,hd2⟩:=id hb
 simp only at hc hd hc2 hd2
 subst hc hd hc2 hd2
 exact richCompare_meets_room (op:=.Lt) ⟨_,ho,rfl⟩ ⟨_,ho2,rfl⟩ PySem.F.slot_tuple_lt PySem.F.entry_tuple_lt (PySem.F.args_tuple_lt_2 _ _) (tuple_lt_ints l b items items2 n n2 dd dd2 sl sl2 ns ms hi hj)
  ⟨ho,ho2,show Value.bool (lexLt ns ms)≠Value.notImplemented∧Q (.bool (lexLt ns ms)) s from ⟨(fun x=>nomatch x),h⟩⟩ hu
theorem cat_tup {t b:Addr}{vs ws:List Value}{Q:Value→Shared→Prop} (ht:IsTup s.heap t vs.toArray) (hb:IsTup s.heap b ws.toArray) (hv:vs≠[])
  (h1:ws=[]→Q (.ref t) s) (h2:ws≠[]→Q (.ref s.heap.objs.size) { s with heap:=s.heap.push { cls:=.type "tuple",data:=.seq (vs++ws).toArray } })
  (hsz:vs.length+ws.length≤sizeLine):wpAny (model prog w) A (binaryOp .Add (.ref t) (.ref b)) Q E s:=by
 obtain ⟨⟨cls,dd,data,sl⟩,ho,hc,n,hd⟩:=id ht
 obtain ⟨⟨cls2,dd2,data2,sl2⟩,ho2,hc2,n2,hd2⟩:=id hb
 simp only at hc hd hc2 hd2
 subst hc hd hc2 hd2
 have e:vs.toArray++ws.toArray=(vs++ws).toArray:=by simp
 by_cases hw:ws=[]
 ·exact concat_meets ⟨_,ho,rfl⟩ ⟨_,ho2,rfl⟩ noFill_tuple_add seq_tuple_add PySem.F.slot_tuple_add PySem.F.entry_tuple_add (PySem.F.args_tuple_add_2 _ _)
   (tuple_addW1 t b vs.toArray ws.toArray n n2 dd dd2 sl sl2 (by simpa using hv) (by simp [hw])) ⟨ho,ho2,h1 hw⟩
 ·refine concat_meets ⟨_,ho,rfl⟩ ⟨_,ho2,rfl⟩ noFill_tuple_add seq_tuple_add PySem.F.slot_tuple_add PySem.F.entry_tuple_add (PySem.F.args_tuple_add_2 _ _)
   (tuple_addW2 t b vs.toArray ws.toArray n n2 dd dd2 sl sl2 (by simpa using hv) (by simpa using hw) (by rw [qA8,qA8]; exact hsz)) ⟨ho,ho2,?_⟩
  rw [e]
  exact h2 hw
noncomputable def sIx (n d:Nat):Option Int→Nat
 | none=>d
 | some v=>if v<0 then (v+(n:Int)).toNat else min v.toNat n
theorem sIx_none (n d:Nat):sIx n d none=d:=rfl
theorem sIx_nat (n d k:Nat):sIx n d (some (k:Int))=min k n:=by
 show (if (k:Int)<0 then ((k:Int)+(n:Int)).toNat else min (k:Int).toNat n)=min k n
 rw [if_neg (by omega),qJ6]
theorem zTe (n d:Nat) (hd:d≤n) (o:Option Int):sIx n d o≤n:=by
 cases o with
 | none=>exact hd
 | some v =>
  show (if v<0 then (v+(n:Int)).toNat else min v.toNat n)≤n
  by_cases hv:v<0
  ·rw [if_pos hv]; omega
  ·rw [if_neg hv]; exact Nat.min_le_right _ _
theorem zNP (v:Int) (n d:Nat):(if v<0 then max (v+(n:Int)) 0 else min v (n:Int))=((sIx n d (some v):Nat):Int):=by
 show (if v<0 then max (v+(n:Int)) 0 else min v (n:Int))=(((if v<0 then (v+(n:Int)).toNat else min v.toNat n):Nat):Int)
 by_cases hv:v<0
 ·simp only [if_pos hv]; omega
 ·simp only [if_neg hv]; omega
theorem zLO (lo hi:Option Int) (n:Nat):Builtin.Slice.sliceAdjust lo hi 1 (n:Int)=(((sIx n 0 lo:Nat):Int),((sIx n n hi:Nat):Int)):=by
 have h1:¬ ((1:Int)<0):=by omega
 unfold Builtin.Slice.sliceAdjust
 simp only [h1,if_false]
 refine Prod.ext ?_ ?_
 ·cases lo with
  | none=>rfl
  | some v=>exact zNP v n 0
 ·cases hi with
  | none=>rfl
  | some v=>exact zNP v n n
theorem zL0 (i j:Nat):Builtin.Slice.slicePlaces (i:Int) (j:Int) 1=j - i:=by
 unfold Builtin.Slice.slicePlaces
 have h1:(1:Int)>0:=by omega
 simp only [h1,if_true,Int.ediv_one]
 split <;> omega
theorem zG6 {v:Value}{o:Option Int}{Q:Option Int→Shared→Prop} (p:IsPart v o) (h:Q o s):wpAny (model prog w) A (Builtin.Slice.slicePartIndex v) Q E s:=by
 cases p with
 | none=>exact slicePart_none h
 | int i t=>exact slicePart_int h
theorem sliceApplied_gen {sl:Addr}{vl vu:Value}{lo hi:Option Int}{n:Nat}{Q:Int × Int × Nat→Shared→Prop} (hs:s.heap.IsSliceOf sl vl vu .none) (pl:IsPart vl lo) (pu:IsPart vu hi)
  (h:Q (((sIx n 0 lo:Nat):Int),1,sIx n n hi - sIx n 0 lo) s):wpAny (model prog w) A (Builtin.Slice.sliceApplied (.ref sl) (pure (n:Int))) Q E s:=by
 obtain ⟨os,hos,hcs,hds⟩:=id hs
 unfold Builtin.Slice.sliceApplied Builtin.Slice.sliceFields
 refine wpAny_bind (wpAny_bind (wpAny_field hos hds (x:=vl) rfl (wpAny_bind (wpAny_field hos hds (x:=vu) rfl (wpAny_bind (wpAny_field hos hds (x:=.none) rfl (wpAny_pure ?_)))))))
 refine wpAny_bind (slicePart_none ?_)
 show wpAny _ _ (if ((1:Int) == 0)=true then _ else _) _ _ s
 rw [if_neg (by decide)]
 refine wpAny_bind (zG6 pl (wpAny_bind (zG6 pu (wpAny_bind (wpAny_pure ?_)))))
 show wpAny _ _ (match Builtin.Slice.sliceAdjust lo hi 1 (n:Int) with | (lo,hi)=>pure (lo,(1:Int),Builtin.Slice.slicePlaces lo hi 1)) _ _ s
 rw [zLO lo hi n]
 show wpAny _ _ (pure (((sIx n 0 lo:Nat):Int),(1:Int),Builtin.Slice.slicePlaces ((sIx n 0 lo:Nat):Int) ((sIx n n hi:Nat):Int) 1)) _ _ s
 rw [zL0]
 exact wpAny_pure h
theorem zOP (xs:Array Value) (i k:Nat):((List.range k).filterMap fun (m:Nat)=>xs[((i:Int)+(m:Int)*1).toNat]?).toArray=((xs.toList.drop i).take k).toArray:=by
 have e:(fun (m:Nat)=>xs[((i:Int)+(m:Int)*1).toNat]?)=fun m=>xs[i+m]?:=by
  funext m
  have:((i:Int)+(m:Int)*1).toNat=i+m:=by omega
  rw [this]
 rw [e]
 have:=pick_run xs i k
 rw [List.filterMap_map] at this
 have e2:((fun x=>xs[x]?)∘fun x=>i+x)=fun m=>xs[i+m]?:=rfl
 rw [e2] at this
 rw [this]
theorem getItem_tuple_cut {t sl:Addr}{items:Array Value}{vl vu:Value}{lo hi:Option Int}{Q:Value→Shared→Prop} (ht:IsTup s.heap t items) (hs:s.heap.IsSliceOf sl vl vu .none) (pl:IsPart vl lo) (pu:IsPart vu hi)
  (hw:¬ (sIx items.size 0 lo=0∧sIx items.size items.size hi=items.size))
  (h:Q (.ref s.heap.objs.size) { s with heap:=s.heap.push { cls:=.type "tuple",data:=.seq ((items.toList.drop (sIx items.size 0 lo)).take (sIx items.size items.size hi - sIx items.size 0 lo)).toArray } })
  (hsz:items.size≤sizeLine):wpAny (model prog w) A (getItem (.ref t) (.ref sl)) Q E s:=by
 have htake:sizeOk (.seq ((items.toList.drop (sIx items.size 0 lo)).take (sIx items.size items.size hi - sIx items.size 0 lo)).toArray):=by
  show ((items.toList.drop (sIx items.size 0 lo)).take (sIx items.size items.size hi - sIx items.size 0 lo)).toArray.size≤sizeLine
  rw [qA8,qH5,qI7,Array.length_toList]
  omega
 have hj:sIx items.size items.size hi≤items.size:=zTe _ _ (qB0 _) hi
 obtain ⟨os,hos,hcs,hds⟩:=id hs
 have hTs:s.TypeIs (.ref sl) "slice":=⟨os,hos,hcs⟩
 unfold getItem
 try with_reducible refine wpAny_holding ?_
 first | refine wpAny_bind (wpAny_pure ?_) | skip
 refine wpAny_bind (wpAny_sequenceKey ht.typeIs (by decide) ?_)
 refine wpAny_bind (wpAny_callSpecial?_slot (name:=Str.ofString "__getitem__") ht.typeIs PyProof.Rows.slot_tuple_getitem
  (wpAny_call_entry PyProof.Rows.slot_tuple_getitem ht.typeIs entry_tuple_getitem ?_ (args_tuple_getitem _ _)))
 show wpAny _ _ (Builtin.Tuple.tupleItemsOf (.ref t) >>= _) _ _ s
 refine wpAny_bind (tupleItemsOf_ ht ?_)
 refine wpAny_bind (wpAny_typeOf hTs ?_)
 rw [if_pos (by decide)]
 refine wpAny_bind (sliceApplied_gen hs pl pu ?_)
 have hno:¬ ((((sIx items.size 0 lo:Nat):Int) == 0&&(1:Int) == 1&&(sIx items.size items.size hi - sIx items.size 0 lo) == items.size)=true):=by
  intro q
  rw [qC9,qC9] at q
  have q1:((sIx items.size 0 lo:Nat):Int)=0:=eq_of_beq q.1.1
  have q2:sIx items.size items.size hi - sIx items.size 0 lo=items.size:=eq_of_beq q.2
  exact hw ⟨by omega,by omega⟩
 show wpAny _ _ (if (((sIx items.size 0 lo:Nat):Int) == 0&&(1:Int) == 1&&(sIx items.size items.size hi - sIx items.size 0 lo) == items.size)=true then _ else _) _ _ s
 rw [if_neg hno,zOP]
 first
  | exact wpAny_bind (m:=Builtin.Tuple.tupleExact _) (wpAny_newObj_type (wpAny_pure ⟨_,rfl,wpAny_pure h⟩) htake)
  | exact wpAny_bind (m:=Builtin.Tuple.tupleExact _) (wpAny_newObj_type (wpAny_bind (wpAny_pure (wpAny_pure ⟨_,rfl,wpAny_pure h⟩))) htake)
  | exact wpAny_bind (wpAny_bind (m:=Builtin.Tuple.tupleExact _) (wpAny_newObj_type (wpAny_pure (wpAny_pure ⟨_,rfl,wpAny_pure h⟩)) htake))
  | exact wpAny_bind (wpAny_bind (m:=Builtin.Tuple.tupleExact _) (wpAny_newObj_type (wpAny_pure ⟨_,rfl,wpAny_pure h⟩) htake))
end
end HT
namespace L2
open PySem PySem.Spec PyProof.Rows
noncomputable abbrev TO:=St→Hp→(Option Int→Hp→Prop)→Prop
def PO (X:Cx) (e:Option Expr) (t:TO):Prop :=
 ∀ (pins:List (Addr × Obj)) (s:Shared) (σ:St) (H:Hp) (Q:Option Int→Hp→Prop),Inv X pins σ H s→t σ H Q →
  wpAny (model X.prog X.w) X.A (evalPart e X.env) (fun u s'=>∃ o H',Inv X pins σ H' s'∧IsPart u o∧Q o H') X.xe s
noncomputable def zQy:TO:=fun _ H Q=>Q none H
noncomputable def zVU (t:TE):TO:=fun σ H Q=>t σ H fun x H1=>∃ i,x=.int i∧Q (some i) H1
theorem zEm {ns:List Int}:∀ {us:List Value},Vals (ns.map V.int) us→IntsAre us ns:=by
 induction ns with
 | nil=>intro us r; rw [qI1] at r; cases r; exact .nil
 | cons n ns ih =>
  intro us r
  rw [qC1] at r
  cases r with
  | cons r1 r2 =>
   obtain ⟨t,e⟩:=r1
   subst e
   exact .cons n t (ih r2)
section
variable {X:Cx}{e:Expr}{te:TE}{lo hi:Option Expr}{tl th:TO}{pos p2:Pos}
theorem zRg:PO X none zQy:=by
 intro pins s σ H Q I h
 rw [evalPart_none]
 exact wpAny_pure ⟨none,H,I,.none,h⟩
theorem zRf (h:PE X e te):PO X (some e) (zVU te):=by
 intro pins s σ H Q I hw
 rw [evalPart_some]
 refine thn (h pins s σ H _ I hw) fun u s1 ⟨x,H1,I1,r1,q1⟩=>?_
 obtain ⟨i,rfl,q⟩:=q1
 obtain ⟨t,rfl⟩:=r1
 exact ⟨some i,H1,I1,.int i t,q⟩
def SlR (X:Cx) (r:V→Option Int→Option Int→Hp→VK→Prop):Prop :=
 ∀ (pins:List (Addr × Obj)) (s:Shared) (σ:St) (H:Hp) (x:V) (v vl vu:Value) (lo hi:Option Int) (sl:Addr) (Q:VK),Inv X pins σ H s→RelV x v→s.heap.IsSliceOf sl vl vu .none→IsPart vl lo→IsPart vu hi→r x lo hi H Q →
  ∃ T id,typeLookup (.type T) "__getitem__"=pure (some (.builtin id))∧s.TypeIs v T∧wpAny (model X.prog X.w) X.A (getItem v (.ref sl)) (EP X pins σ Q) X.xe s
noncomputable def tSl (r:V→Option Int→Option Int→Hp→VK→Prop) (te:TE) (tl th:TO):TE:=fun σ H Q=>te σ H fun x H1=>tl σ H1 fun l H2=>th σ H2 fun u H3=>r x l u H3 Q
theorem zOT {r:V→Option Int→Option Int→Hp→VK→Prop} (hr:SlR X r) (he:PE X e te) (hl:PO X lo tl) (hu:PO X hi th):PE X (.Subscript e (.Slice lo hi none p2) pos) (tSl r te tl th):=by
 intro pins s σ H Q I h
 refine Subscript_ (thn (he pins s σ H _ I h) fun v s1 ⟨x,H1,I1,r1,q1⟩=>?_)
 refine wpAny_Slice (thn (hl pins s1 σ H1 _ I1 q1) fun vl s2 ⟨l,H2,I2,pl,q2⟩=>thn (hu pins s2 σ H2 _ I2 q2) fun vu s3 ⟨u,H3,I3,pu,q3⟩=>?_)
 rw [evalPart_none]
 refine wpAny_pure ?_
 have I4:Inv X pins σ H3 { s3 with heap:=s3.heap.push { cls:=.type "slice",data:=.fields #[vl,vu,.none] } }:=I3.kept (t':=s3.toks) fun b ob q=>qA5 _ q
 obtain ⟨T,id,hT,ht,hg⟩:=hr pins { s3 with heap:=s3.heap.push { cls:=.type "slice",data:=.fields #[vl,vu,.none] } } σ H3 x v vl vu l u s3.heap.objs.size Q I4 r1 (Heap.IsSliceOf.new ..) pl pu q3
 show wpAny (model X.prog X.w) X.A (subscriptTail e (.Slice lo hi none p2) v (.ref s3.heap.objs.size)) (EP X pins σ Q) X.xe { s3 with heap:=s3.heap.push { cls:=.type "slice",data:=.fields #[vl,vu,.none] } }
 exact tail_any (ops:=[.ref s3.heap.objs.size,v]) ht hT hg (by with_unfolding_all rfl)
noncomputable def cutV (xs:List V) (lo hi:Option Int):List V:=(xs.drop (HT.sIx xs.length 0 lo)).take (HT.sIx xs.length xs.length hi - HT.sIx xs.length 0 lo)
theorem zFr (xs:List V) (lo hi:Option Int):(cutV xs lo hi).length≤xs.length:=by
 unfold cutV
 rw [qH5,qI7]
 omega
noncomputable def rSlT (K:W.Frag):V→Option Int→Option Int→Hp→VK→Prop:=fun x lo hi H Q=>∃ a xs,x=.ref a∧SqT K H a xs ∧
 ¬ (HT.sIx xs.length 0 lo=0∧HT.sIx xs.length xs.length hi=xs.length)∧∀ p,H p=none→Q (.ref p) (upd H p (.tup (cutV xs lo hi)))
theorem zSV:SlR X (rSlT X.K):=by
 intro pins s σ H x v vl vu lo hi sl Q I rx hs pl pu h
 obtain ⟨a,xs,rfl,hx,hw,q⟩:=h
 cases rx
 obtain ⟨its,r,ht,hz⟩:=I.tuple hx
 have hlen:its.toArray.size=xs.length:=by rw [qA8]; exact r.length.symm
 refine ⟨"tuple",_,PyProof.Rows.slot_tuple_getitem.lookup,ht.typeIs,?_⟩
 refine HT.getItem_tuple_cut ht hs pl pu (by rw [hlen]; exact hw) ?_ (by rw [hlen]; exact hz)
 rw [hlen]
 refine ⟨.ref s.heap.objs.size,_,I.laid (t':=s.toks) (o:=.tup (cutV xs lo hi)) (fun b ob q=>qA5 _ q) (qB0 _) ?_,rfl,q _ (I.hok.fresh (qB0 _))⟩
 exact ⟨qC5 (zFr xs lo hi) hz,_,(r.drop (HT.sIx xs.length 0 lo)).take (HT.sIx xs.length xs.length hi - HT.sIx xs.length 0 lo),IsTup.new _ _⟩
noncomputable def zWh (K:W.Frag):R2:=fun x y H Q=>∃ a b xs ys,x=.ref a∧y=.ref b∧SqT K H a xs∧SqT K H b ys∧xs≠[]∧xs.length+ys.length≤sizeLine ∧
 (ys=[]→Q (.ref a) H)∧(ys≠[]→∀ p,H p=none→Q (.ref p) (upd H p (.tup (xs++ys))))
theorem Vals.nil_iff {xs:List V}{us:List Value} (r:Vals xs us):us=[]↔xs=[]:=by
 cases r with
 | nil=>simp
 | cons _ _=>simp
theorem zRq:OpR X (binaryOp .Add) (zWh X.K):=by
 intro pins s σ H x y v u Q I rx ry h
 obtain ⟨a,b,xs,ys,rfl,rfl,ha,hb,hx,hz,q1,q2⟩:=h
 cases rx
 cases ry
 obtain ⟨its,r1,p1,_⟩:=I.tuple ha
 obtain ⟨its2,r2,p2,_⟩:=I.tuple hb
 refine HT.cat_tup p1 p2 (fun z=>hx (r1.nil_iff.mp z)) (fun z=>⟨.ref a,H,I,rfl,q1 (r2.nil_iff.mp z)⟩) (fun z=>?_) (by rw [← r1.length,← r2.length]; exact hz)
 refine ⟨.ref s.heap.objs.size,_,I.laid (t':=s.toks) (o:=.tup (xs++ys)) (fun b ob q=>qA5 _ q) (qB0 _) ?_,rfl,q2 (fun w=>z (r2.nil_iff.mpr w)) _ (I.hok.fresh (qB0 _))⟩
 exact ⟨by rw [qB2]; exact hz,_,r1.append r2,IsTup.new _ _⟩
end
noncomputable def ixN (n:Nat) (i:Int):Option Nat:=if 0≤i then (if i<n then some i.toNat else none) else if -(n:Int)≤i then some (i+n).toNat else none
noncomputable def atI {α:Type} (xs:List α) (i:Int):Option α:=(ixN xs.length i).bind fun j=>xs[j]?
theorem zN4 {n:Nat}{i:Int}{j:Nat} (h:ixN n i=some j):seqIndex? i n=some j∧j<n∧-(n:Int)≤i∧i<n:=by
 unfold ixN at h
 by_cases h0:0≤i
 ·rw [if_pos h0] at h
  by_cases h1:i<n
  ·rw [if_pos h1] at h
   have e:i.toNat=j:=Option.some.inj h
   exact ⟨by rw [seqIndex_of h0 h1,e],by omega,by omega,h1⟩
  ·rw [if_neg h1] at h; cases h
 ·rw [if_neg h0] at h
  by_cases h1:-(n:Int)≤i
  ·rw [if_pos h1] at h
   have e:(i+n).toNat=j:=Option.some.inj h
   exact ⟨by rw [seqIndex_neg (by omega) h1,e],by omega,h1,by omega⟩
  ·rw [if_neg h1] at h; cases h
theorem zOa {α:Type}{xs:List α}{i:Int}{v:α} (h:atI xs i=some v):∃ j,seqIndex? i xs.length=some j∧xs[j]?=some v∧j<xs.length∧-(xs.length:Int)≤i∧i<xs.length:=by
 unfold atI at h
 cases e:ixN xs.length i with
 | none=>rw [e] at h; cases h
 | some j =>
  rw [e] at h
  obtain ⟨h1,h2,h3,h4⟩:=zN4 e
  exact ⟨j,h1,h,h2,h3,h4⟩
theorem zCH {α:Type}{xs:List α}{j:Nat}{v:α} (h:xs[j]?=some v):atI xs (j:Int)=some v:=by
 have hj:j<xs.length:=(qA1.mp h).1
 have e:ixN xs.length (j:Int)=some j:=by
  unfold ixN
  rw [if_pos (by omega),if_pos (by omega)]; simp
 unfold atI; rw [e]; exact h
def zJS (b:Expr):Prop:=∀ o i,subscripted b false o i=operate [o,i] (getItem o i)
def IxR (X:Cx) (r:R2):Prop :=
 ∀ (value slice:Expr) (pins:List (Addr × Obj)) (s:Shared) (σ:St) (H:Hp) (x y:V) (v u:Value) (Q:VK),Inv X pins σ H s→RelV x v→RelV y u→r x y H Q →
  subscripted slice false v u=operate [v,u] (getItem v u)→wpAny (model X.prog X.w) X.A (subscriptTail value slice v u) (EP X pins σ Q) X.xe s
def MtR (X:Cx) (id:String) (r:V→List V→Hp→VK→Prop):Prop :=
 ∀ (pins:List (Addr × Obj)) (s:Shared) (σ:St) (H:Hp) (x:V) (xs:List V) (v:Value) (us:List Value) (Q:VK),Inv X pins σ H s→RelV x v→Vals xs us→r x xs H Q →
  wpAny (model X.prog X.w) X.A (call (.builtin id) (v::us)) (EP X pins σ Q) X.xe s
section
variable {X:Cx}{a b:Expr}{ta tb:TE}{pos:Pos}
theorem zWn {r:R2} (hr:IxR X r) (ha:PE X a ta) (hb:PE X b tb) (hs:zJS b):PE X (.Subscript a b pos) (tOp r ta tb):=by
 intro pins s σ H Q I h
 exact Subscript_ (binT ha hb I h fun v u s2 x y H2 I2 rx ry q=>hr a b pins s2 σ H2 x y v u Q I2 rx ry q (hs _ _))
noncomputable def rIxL (K:W.Frag):R2:=fun x y H Q=>∃ p xs i v,x=.ref p∧y=.int i∧SqL K H p xs∧atI xs i=some v∧Q v H
noncomputable def rIxT (K:W.Frag):R2:=fun x y H Q=>∃ p xs i v,x=.ref p∧y=.int i∧SqT K H p xs∧atI xs i=some v∧Q v H
theorem zRV:IxR X (rIxL X.K):=by
 intro value slice pins s σ H x y v u Q I rx ry h hs
 obtain ⟨p,xs,i,z,rfl,rfl,hq,he,q⟩:=h
 cases rx
 obtain ⟨t,rfl⟩:=ry
 obtain ⟨its,r,pl,hz⟩:=I.list hq
 obtain ⟨j,h1,h2,h3,h4,h5⟩:=zOa he
 obtain ⟨w,ew,rw'⟩:=r.get h2
 have hl:=r.length
 have hn:=zGd
 have fin:EP X pins σ Q w s:=⟨z,H,I,rw',q⟩
 by_cases h0:0≤i
 ·have hj:i.toNat=j:=by
   rw [seqIndex_of h0 h5] at h1
   exact Option.some.inj h1
  exact item_listR pl.isList h0 (by omega) (by rw [hj]; simpa using ew) fin hs
 ·have hj:(i+(its.toArray.size:Int)).toNat=j:=by
   rw [seqIndex_neg (by omega) h4] at h1
   rw [qA8,← hl]
   exact Option.some.inj h1
  exact subscriptTail_builtinR (x:=w) pl.isList.typeIs slot_list_getitem.lookup
   (wpAny_getItem_list_neg (Q:=fun r s'=>r=w∧EP X pins σ Q r s') pl.isList (by omega) (by rw [qA8] <;> omega) (by omega) (by rw [hj]; simpa using ew) ⟨rfl,fin⟩) hs
theorem zUp:IxR X (rIxT X.K):=by
 intro value slice pins s σ H x y v u Q I rx ry h hs
 obtain ⟨p,xs,i,z,rfl,rfl,hq,he,q⟩:=h
 cases rx
 obtain ⟨t,rfl⟩:=ry
 obtain ⟨its,r,pl,hz⟩:=I.tuple hq
 obtain ⟨j,h1,h2,h3,h4,h5⟩:=zOa he
 obtain ⟨w,ew,rw'⟩:=r.get h2
 have hl:=r.length
 have hn:=zGd
 have fin:EP X pins σ Q w s:=⟨z,H,I,rw',q⟩
 exact subscriptTail_builtinR (x:=w) pl.typeIs slot_tuple_getitem.lookup
  (getItem_tuple (j:=j) (Q:=fun r s'=>r=w∧EP X pins σ Q r s') pl (by omega) (by omega) (by rw [qA8,← hl]; exact h1) (by simpa using ew) ⟨rfl,fin⟩) hs
theorem zL5 (its:List Value) (n j:Nat) (u:Value):Obj.mapSeq (·.setIfInBounds j u) { cls:=.type "list",data:=.seq its.toArray n }={ cls:=.type "list",data:=.seq (its.set j u).toArray n }:=by
 simp [Obj.mapSeq]
theorem Inv.lst {pins:List (Addr × Obj)}{σ:St}{H:Hp}{s:Shared}{p:Addr}{xs:List V} (I:Inv X pins σ H s) (h:H p=some (.lst xs)) :
  ∃ (its:List Value) (n:Nat),Vals xs its∧s.heap.get? p=some { cls:=.type "list",data:=.seq its.toArray n }∧xs.length≤sizeLine:=by
 obtain ⟨z,its,n,r,e⟩:=I.hok p _ h
 exact ⟨its,n,r,e,z⟩
theorem Inv.lstUpd {pins:List (Addr × Obj)}{σ:St}{H:Hp}{s:Shared}{p:Addr}{xs ys:List V}{its its':List Value}{n n':Nat}{f:Obj→Obj} (I:Inv X pins σ H s) (h:H p=some (.lst xs))
  (ho:s.heap.get? p=some { cls:=.type "list",data:=.seq its.toArray n }) (hf:f { cls:=.type "list",data:=.seq its.toArray n }={ cls:=.type "list",data:=.seq its'.toArray n' }) (r:Vals ys its') (hz:ys.length≤sizeLine) (t:Nat) :
  Inv X pins σ (upd H p (.lst ys)) { s with heap:=s.heap.update p f,toks:=t }:=by
 have e:(s.heap.update p f).get? p=some { cls:=.type "list",data:=.seq its'.toArray n' }:=by
  rw [qH8 f ho (by rw [hf] <;> rfl),hf]
 refine I.write (x:=p) (e:=p) (by rw [h]; trivial) (.inl rfl) (fun b u hb q=>(qK7 _ _ (Ne.symm hb)).trans q) ⟨_,e⟩ ?_
 exact ⟨hz,its',n',r,e⟩
noncomputable def zWf:V→V→V→Hp→(Hp→Prop)→Prop:=fun o i v H Q=>∃ p xs k j,o=.ref p∧i=.int k∧H p=some (.lst xs)∧ixN xs.length k=some j∧Q (upd H p (.lst (xs.set j v)))
theorem zOu:PSet X zWf:=by
 intro pins s σ H o i v ov iv u Q I ro ri rv h
 obtain ⟨p,xs,k,j,rfl,rfl,hp,hj,q⟩:=h
 cases ro
 obtain ⟨t,rfl⟩:=ri
 obtain ⟨its,n,r,ho,hz⟩:=I.lst hp
 obtain ⟨h1,h2,h3,h4⟩:=zN4 hj
 have hl:=r.length
 have hn:=zGd
 have I':Inv X pins σ (upd H p (.lst (xs.set j v))) { s with heap:=s.heap.update p (Obj.mapSeq (·.setIfInBounds j u)) } :=
  I.lstUpd hp ho (zL5 its n j u) (r.set rv j) (by rw [qO8]; exact hz) s.toks
 by_cases h0:0≤k
 ·have hk:k.toNat=j:=by
   rw [seqIndex_of h0 h4] at h1
   exact Option.some.inj h1
  exact W.ki_setAt ho h0 (by omega) (by rw [qA8,← hl]; exact h4) (by rw [hk]; exact ⟨_,I',q⟩)
 ·have hk:(k+(its.toArray.size:Int)).toNat=j:=by
   rw [seqIndex_neg (by omega) h3] at h1
   rw [qA8,← hl]
   exact Option.some.inj h1
  exact W.ki_setBack ho (by omega) (by rw [qA8,← hl]; exact h3) (by omega) (by rw [hk]; exact ⟨_,I',q⟩)
theorem zHA (lo hi:Option Int) (n:Nat):(sliceBounds lo hi none n).1=((HT.sIx n 0 lo:Nat):Int)∧(sliceBounds lo hi none n).2.1=((HT.sIx n n hi:Nat):Int)∧(sliceBounds lo hi none n).2.2=1:=by
 refine ⟨?_,?_,rfl⟩
 ·cases lo with
  | none=>simp [sliceBounds,HT.sIx]
  | some i =>
   simp only [sliceBounds,HT.sIx,qR6,show (1:Int)>0 by decide,if_true]
   by_cases h:i<0
   ·simp only [h,if_true] <;> omega
   ·simp only [h,if_false] <;> omega
 ·cases hi with
  | none=>simp [sliceBounds,HT.sIx]
  | some i =>
   simp only [sliceBounds,HT.sIx,qR6,show (1:Int)>0 by decide,if_true]
   by_cases h:i<0
   ·simp only [h,if_true] <;> omega
   ·simp only [h,if_false] <;> omega
theorem zGC (its:List Value) (lo hi:Option Int):slicePick its.toArray lo hi none=((its.drop (HT.sIx its.length 0 lo)).take (HT.sIx its.length its.length hi - HT.sIx its.length 0 lo)).toArray:=by
 obtain ⟨h1,h2,h3⟩:=zHA lo hi its.toArray.size
 unfold slicePick
 rw [h1,h2,h3]
 simp only [sliceRange_one,pick_run,qA8] <;> rfl
noncomputable def rSlL (K:W.Frag):V→Option Int→Option Int→Hp→VK→Prop:=fun x lo hi H Q=>∃ a xs,x=.ref a∧SqL K H a xs∧∀ p,H p=none→Q (.ref p) (upd H p (.lst (cutV xs lo hi)))
theorem zQK:SlR X (rSlL X.K):=by
 intro pins s σ H x v vl vu lo hi sl Q I rx hs pl pu h
 obtain ⟨a,xs,rfl,hx,q⟩:=h
 cases rx
 obtain ⟨its,r,ht,hz⟩:=I.list hx
 have hlen:=r.length
 refine ⟨"list",_,slot_list_getitem.lookup,ht.isList.typeIs,?_⟩
 refine wpAny_getItem_list_slice ht.isList hs pl pu .none (by simp) ?_ (by rw [qA8] <;> omega)
 rw [zGC,← hlen]
 refine ⟨.ref s.heap.objs.size,_,I.laid (t':=s.toks) (o:=.lst (cutV xs lo hi)) (fun b ob q=>qA5 _ q) (qB0 _) ?_,rfl,q _ (I.hok.fresh (qB0 _))⟩
 exact ⟨qC5 (zFr xs lo hi) hz,_,0,(r.drop (HT.sIx xs.length 0 lo)).take (HT.sIx xs.length xs.length hi - HT.sIx xs.length 0 lo),qB4 _ rfl⟩
noncomputable def zFS:V→Bool
 | .non=>true
 | .bl _=>true
 | .int _=>true
 | .str _=>true
 | _=>false
noncomputable def eqV:V→V→Bool
 | .non,.non=>true
 | .bl a,.bl b=>a == b
 | .bl a,.int b=>(if a then 1 else 0) == b
 | .int a,.bl b=>a == (if b then 1 else 0)
 | .int a,.int b=>a == b
 | .str a,.str b=>a == b
 | _,_=>false
theorem zUI {A:Around}{s:Shared}{y x:V}{u v:Value} (ry:RelV y u) (rx:RelV x v) (fy:zFS y=true) (fx:zFS x=true):SeqAt.EqAt A s u v (eqV y x):=by
 cases y with
 | non =>
  cases ry
  cases x with
  | non=>cases rx; exact SeqAt.EqAt.same _
  | bl b=>cases rx; exact SeqAt.EqAt.none_bool b
  | int b=>obtain ⟨t,rfl⟩:=rx; exact SeqAt.EqAt.none_int b t
  | str b=>obtain ⟨t,rfl⟩:=rx; exact SeqAt.EqAt.none_str b t
  | _=>exact absurd (show false=true from fx) qB1
 | bl a =>
  cases ry
  cases x with
  | non=>cases rx; exact SeqAt.EqAt.bool_none a
  | bl b=>cases rx; exact SeqAt.EqAt.bool_bool a b
  | int b=>obtain ⟨t,rfl⟩:=rx; exact SeqAt.EqAt.bool_int a b t
  | str b=>obtain ⟨t,rfl⟩:=rx; exact SeqAt.EqAt.bool_str a b t
  | _=>exact absurd (show false=true from fx) qB1
 | int a =>
  obtain ⟨t',rfl⟩:=ry
  cases x with
  | non=>cases rx; exact SeqAt.EqAt.int_none a t'
  | bl b=>cases rx; exact SeqAt.EqAt.int_bool a t' b
  | int b=>obtain ⟨t,rfl⟩:=rx; exact SeqAt.EqAt.int_int a t' b t
  | str b=>obtain ⟨t,rfl⟩:=rx; exact SeqAt.EqAt.int_str a t' b t
  | _=>exact absurd (show false=true from fx) qB1
 | str a =>
  obtain ⟨t',rfl⟩:=ry
  cases x with
  | non=>cases rx; exact SeqAt.EqAt.str_none a t'
  | bl b=>cases rx; exact SeqAt.EqAt.str_bool a t' b
  | int b=>obtain ⟨t,rfl⟩:=rx; exact SeqAt.EqAt.str_int a t' b t
  | str b=>obtain ⟨t,rfl⟩:=rx; exact SeqAt.EqAt.str_str a t' b t
  | _=>exact absurd (show false=true from fx) qB1
 | _=>exact absurd (show false=true from fy) qB1
noncomputable def eqU (x:V) (u:Value):Bool:=match u with
 | .none=>eqV .non x
 | .bool b=>eqV (.bl b) x
 | .int i _=>eqV (.int i) x
 | .str z _=>eqV (.str z) x
 | _=>false
theorem zQe {x y:V}{u:Value} (r:RelV y u) (f:zFS y=true):eqU x u=eqV y x:=by
 cases y with
 | non=>cases r; rfl
 | bl b=>cases r; rfl
 | int i=>obtain ⟨t,rfl⟩:=r; rfl
 | str z=>obtain ⟨t,rfl⟩:=r; rfl
 | _=>exact absurd (show false=true from f) qB1
theorem zFC {x:V}:∀ {xs:List V}{us:List Value},Vals xs us→xs.all zFS=true→us.any (eqU x)=xs.any fun y=>eqV y x
 | _,_,.nil,_=>rfl
 | y::xs,u::us,.cons r t,f=>by
  rw [qJ4,qC9] at f
  rw [qG8,qG8,zQe r f.1,zFC t f.2]
theorem zDP {A:Around}{s:Shared}{x:V}{v:Value} (rx:RelV x v) (fx:zFS x=true):∀ {xs:List V}{us:List Value},Vals xs us→xs.all zFS=true→∀ u∈us,SeqAt.EqAt A s u v (eqU x u)
 | _,_,.nil,_=>fun u hu=>by cases hu
 | y::xs,u::us,.cons r t,f=>fun u' hu=>by
  rw [qJ4,qC9] at f
  rcases qB9.mp hu with rfl | hu
  ·rw [zQe r f.1]; exact zUI r rx f.1 fx
  ·exact zDP rx fx t f.2 u' hu
noncomputable def inV (x:V) (xs:List V):Bool:=xs.any fun y=>eqV y x
noncomputable def rIn (K:W.Frag) (neg:Bool):R2:=fun x y H Q=>∃ p xs,y=.ref p∧(SqL K H p xs∨SqT K H p xs)∧zFS x=true∧xs.all zFS=true∧Q (.bl (if neg then !inV x xs else inV x xs)) H
theorem zMF:OpR X (compareOp .In) (rIn X.K false):=by
 intro pins s σ H x y v u Q I rx ry h
 obtain ⟨p,xs,rfl,hq,fx,fs,q⟩:=h
 cases ry
 rcases hq with hq | hq
 ·obtain ⟨its,r,pl,hz⟩:=I.list hq
  refine SeqAt.in_listAt (eqU x) pl.isList (fun w hw=>zDP rx fx r fs w (by simpa using hw)) ⟨.bl _,H,I,rfl,?_⟩
  rw [show its.toArray.any (eqU x)=its.any (eqU x) by simp,zFC r fs]
  exact q
 ·obtain ⟨its,r,pl,hz⟩:=I.tuple hq
  refine SeqAt.in_tupleAt (eqU x) pl (fun w hw=>zDP rx fx r fs w (by simpa using hw)) ⟨.bl _,H,I,rfl,?_⟩
  rw [show its.toArray.any (eqU x)=its.any (eqU x) by simp,zFC r fs]
  exact q
theorem zHN:OpR X (compareOp .NotIn) (rIn X.K true):=by
 intro pins s σ H x y v u Q I rx ry h
 obtain ⟨p,xs,rfl,hq,fx,fs,q⟩:=h
 cases ry
 rcases hq with hq | hq
 ·obtain ⟨its,r,pl,hz⟩:=I.list hq
  refine SeqAt.notIn_listAt (eqU x) pl.isList (fun w hw=>zDP rx fx r fs w (by simpa using hw)) ⟨.bl _,H,I,rfl,?_⟩
  rw [show its.toArray.any (eqU x)=its.any (eqU x) by simp,zFC r fs]
  exact q
 ·obtain ⟨its,r,pl,hz⟩:=I.tuple hq
  refine SeqAt.notIn_tupleAt (eqU x) pl (fun w hw=>zDP rx fx r fs w (by simpa using hw)) ⟨.bl _,H,I,rfl,?_⟩
  rw [show its.toArray.any (eqU x)=its.any (eqU x) by simp,zFC r fs]
  exact q
theorem zIq:zAV X (.builtin "len") (fun xs H Q=>∃ p ys,xs=[.ref p]∧(SqL X.K H p ys∨SqT X.K H p ys)∧Q (.int ys.length) H):=by
 intro pins s σ H xs us Q I r h
 obtain ⟨p,ys,rfl,hq,q⟩:=h
 obtain ⟨u,rfl,rx⟩:=zCP r
 cases rx
 have hn:=zGd
 rcases hq with hq | hq
 ·obtain ⟨its,r',pl,hz⟩:=I.list hq
  have hlen:=r'.length
  exact Calls.call_len_list pl.isList (by simp only [qA8] <;> omega) ⟨.int ys.length,H,I.tok _,⟨s.toks+1,by rw [qA8,hlen]⟩,q⟩
 ·obtain ⟨its,r',pl,hz⟩:=I.tuple hq
  have hlen:=r'.length
  exact len_tuple pl (by simp only [qA8] <;> omega) ⟨.int ys.length,H,I.tok _,⟨s.toks+1,by rw [qA8,hlen]⟩,q⟩
theorem zIp:zAV X (.builtin "len") (fun xs H Q=>∃ z,xs=[.str z]∧z.length≤sizeLine∧Q (.int z.length) H):=by
 intro pins s σ H xs us Q I r h
 obtain ⟨z,rfl,hz,q⟩:=h
 obtain ⟨u,rfl,t,rfl⟩:=zCP r
 have hn:=zGd
 exact len_str (by omega) ⟨.int z.length,H,I.tok _,⟨_,rfl⟩,q⟩
theorem zIo:zAV X (.type "list") (fun xs H Q=>∃ p ys,xs=[.ref p]∧(SqL X.K H p ys∨SqT X.K H p ys)∧∀ l,H l=none→Q (.ref l) (upd H l (.lst ys))):=by
 intro pins s σ H xs us Q I r h
 obtain ⟨p,ys,rfl,hq,q⟩:=h
 obtain ⟨u,rfl,rx⟩:=zCP r
 cases rx
 have fin:∀ (its:List Value),Vals ys its→ys.length≤sizeLine→∀ (h':Heap) (c':Nat),(∀ b o',s.heap.get? b=some o'→h'.get? b=some o') →
   h'.get? s.heap.objs.size=some { cls:=.type "list",dict:=none,data:=.seq its.toArray c',slots:=#[] }→EP X pins σ Q (.ref s.heap.objs.size) { s with heap:=h' }:=fun its r' hz h' c' kp e =>
  ⟨.ref s.heap.objs.size,_,I.laid (t':=s.toks) kp (qB0 _) (show zBL X.prog X.w _ h' _ (.lst ys) from ⟨hz,its,c',r',e⟩),rfl,q _ (I.hok.fresh (qB0 _))⟩
 rcases hq with hq | hq
 ·obtain ⟨its,r',pl,hz⟩:=I.list hq
  have hlen:=r'.length
  obtain ⟨o,ho,hc,n,hd⟩:=pl.isList
  exact call_list_seq p (.inl rfl) ho hc hd (fun h' c' kp e=>fin its r' hz h' c' kp e) (by simp only [qA8] <;> omega)
 ·obtain ⟨its,r',pl,hz⟩:=I.tuple hq
  have hlen:=r'.length
  obtain ⟨o,ho,hc,n,hd⟩:=pl
  exact call_list_seq p (.inr rfl) ho hc hd (fun h' c' kp e=>fin its r' hz h' c' kp e) (by simp only [qA8] <;> omega)
theorem zE2:zAV X (.type "tuple") (fun xs H Q=>∃ p ys,xs=[.ref p]∧((SqL X.K H p ys∧∀ l,H l=none→Q (.ref l) (upd H l (.tup ys)))∨(SqT X.K H p ys∧Q (.ref p) H))):=by
 intro pins s σ H xs us Q I r h
 obtain ⟨p,ys,rfl,h⟩:=h
 obtain ⟨u,rfl,rx⟩:=zCP r
 cases rx
 rcases h with ⟨hq,q⟩ | ⟨hq,q⟩
 ·obtain ⟨its,r',pl,hz⟩:=I.list hq
  have hlen:=r'.length
  refine call_tuple_list pl.isList (fun h' kp=>?_) (by simp only [qA8] <;> omega)
  have I1:Inv X pins σ H { s with heap:=h' }:=I.kept (t':=s.toks) kp
  have I2:Inv X pins σ (upd H h'.objs.size (.tup ys)) { s with heap:=h'.push { cls:=.type "tuple",data:=.seq its.toArray } } :=
   I1.laid (t':=s.toks) (fun b o e=>qA5 _ e) (qB0 _) (show zBL X.prog X.w _ _ _ (.tup ys) from ⟨hz,its,r',IsTup.new _ _⟩)
  exact ⟨.ref h'.objs.size,_,I2,rfl,q _ (I1.hok.fresh (qB0 _))⟩
 ·obtain ⟨its,r',pl,hz⟩:=I.tuple hq
  exact call_tuple_same pl ⟨.ref p,H,I,rfl,q⟩
def tyV (K:W.Frag) (T:String) (x:V) (H:Hp):Prop:=match x with
 | .str _=>T = "str"
 | .int _=>T = "int"
 | .ref p=>(T = "list"∧∃ xs,SqL K H p xs)∨(T = "tuple"∧∃ o,K.lookup p=some o∧o.cls=.type "tuple"∧o.dict=none) ∨
   (T = "dict"∧((∃ kvs,H p=some (.dK kvs))∨∃ kvs,H p=some (.dT kvs)))∨(T = "set"∧∃ S n,H p=some (.set S n))
 | _=>False
theorem zPS {pins:List (Addr × Obj)}{σ:St}{H:Hp}{s:Shared}{T:String}{x:V}{v:Value} (I:Inv X pins σ H s) (r:RelV x v) (ty:tyV X.K T x H) :
  s.TypeIs v T∧∀ a,v=.ref a→∃ ob,s.heap.get? a=some ob∧ob.dict=none:=by
 cases x with
 | str z =>
  obtain ⟨t,rfl⟩:=r
  cases (show T = "str" from ty)
  exact ⟨typeIs_str s z t,fun _ e=>nomatch e⟩
 | int i =>
  obtain ⟨t,rfl⟩:=r
  cases (show T = "int" from ty)
  exact ⟨typeIs_int s i t,fun _ e=>nomatch e⟩
 | ref p =>
  cases r
  rcases ty with ⟨rfl,xs,hq⟩ | ⟨rfl,o,hk,hc,hd⟩ | ⟨rfl,hk⟩ | ⟨rfl,S,n,hk⟩
  ·obtain ⟨its,_,pl,_⟩:=I.list hq
   refine ⟨pl.isList.typeIs,fun a e=>?_⟩
   cases e
   obtain ⟨o,n,e,c,hd,_⟩:=pl
   exact ⟨o,e,hd⟩
  ·refine ⟨⟨o,I.kIn p o hk,hc⟩,fun a e=>?_⟩
   cases e
   exact ⟨o,I.kIn _ o hk,hd⟩
  ·have z:∃ o,s.heap.get? p=some o∧o.ExactDict:=by
    rcases hk with ⟨kvs,hk⟩ | ⟨kvs,hk⟩
    ·obtain ⟨_,_,_,_,o,_,_,e,ex,_⟩:=I.hok p _ hk
     exact ⟨o,e,ex⟩
    ·obtain ⟨_,_,_,_,o,_,_,e,ex,_⟩:=I.hok p _ hk
     exact ⟨o,e,ex⟩
   obtain ⟨o,e,ex⟩:=z
   refine ⟨⟨o,e,ex.1⟩,fun a e2=>?_⟩
   cases e2
   exact ⟨o,e,ex.2.1⟩
  ·obtain ⟨o,_,_,_,e,ex,_⟩:=I.hok p _ hk
   refine ⟨⟨o,e,ex.1⟩,fun a e2=>?_⟩
   cases e2
   exact ⟨o,e,ex.2.1⟩
 | _=>exact False.elim ty
noncomputable def tBM0 (K:W.Frag) (T:String) (r:V→List V→Hp→VK→Prop) (to:TE):TE:=fun σ H Q=>to σ H fun x H1=>tyV K T x H1∧r x [] H1 Q
noncomputable def tBM (K:W.Frag) (T:String) (r:V→List V→Hp→VK→Prop) (to:TE) (t:TA):TE:=fun σ H Q=>to σ H fun x H1=>tyV K T x H1∧t σ H1 fun xs H2=>r x xs H2 Q
variable {o e:Expr}{es:List Expr}{to:TE}{t:TA}{name:Str}{apos cpos:Pos}{T id:String}{r:V→List V→Hp→VK→Prop}
theorem zTA (pa:PlainAttrs T) (slot:Slot T name id) (hty:typeOf (.builtin id)=pure (.type "method_descriptor")) (hm:MtR X id r) (ho:PE X o to)
  (hbase:attributeBase o name X.env (eval o X.env)=eval o X.env:=by rfl) (hline:(apos.endLine == cpos.line)=true:=by rfl):PE X (.Call (.Attribute o name apos) [] [] cpos) (tBM0 X.K T r to):=by
 intro pins s σ H Q I h
 refine wpAny_Call_method0_late hbase hline (thn (ho pins s σ H _ I h) fun v s1 ⟨x,H1,I1,r1,ty,q1⟩=>?_)
 obtain ⟨h1,h2⟩:=zPS I1 r1 ty
 exact ⟨T,id,pa,slot,hty,h1,h2,Calls.callWith_builtin rfl (PySem.evalArgs_none (hm pins s1 σ H1 x [] v [] Q I1 r1 .nil q1))⟩
theorem zWo (pa:PlainAttrs T) (slot:Slot T name id) (hty:typeOf (.builtin id)=pure (.type "method_descriptor")) (hm:MtR X id r) (ho:PE X o to) (ha:PA X (e::es) t)
  (hbase:attributeBase o name X.env (eval o X.env)=eval o X.env:=by rfl)
  (hfew:((backTo cpos (starEach (e::es) X.env)).all (fun x=>!x.1)&&(backToKw cpos (keywordEach [] X.env)).all (fun x=>x.1.isSome)
   && decide ((e::es).length+([]:List Keyword).length+(if ([]:List Keyword).isEmpty then 0 else 1)<30))=true:=by rfl)
  (hline:(apos.endLine == cpos.line)=true:=by rfl) (hs:starEach (e::es) X.env=(false,eval e X.env)::starEach es X.env:=by rfl) (hplain:(backTo cpos (starEach es X.env)).any (·.1)=false:=by rfl) :
  PE X (.Call (.Attribute o name apos) (e::es) [] cpos) (tBM X.K T r to t):=by
 intro pins s σ H Q I h
 refine wpAny_Call_method_late hbase hfew hline rfl (thn (ho pins s σ H _ I h) fun v s1 ⟨x,H1,I1,r1,ty,q1⟩=>?_)
 obtain ⟨h1,h2⟩:=zPS I1 r1 ty
 refine ⟨T,id,pa,slot,hty,h1,h2,?_⟩
 have hA:=ha cpos pins s1 σ H1 _ I1 q1
 rw [hs] at hA ⊢
 refine Calls.callWith_builtin (by show (false||(backTo cpos (starEach es X.env)).any (·.1))=false; rw [hplain] <;> rfl) (Calls.evalArgs_plain ?_)
 exact thn hA fun us s2 ⟨vs,H2,I2,r2,q2⟩=>hm pins s2 σ H2 x vs v us Q I2 r1 r2 q2
end
def MtM (X:Cx) (id:String) (r:V→List V→Hp→VK→Prop):Prop :=
 ∀ (pins:List (Addr × Obj)) (s:Shared) (σ:St) (H:Hp) (x:V) (xs:List V) (v:Value) (us:List Value) (Q:VK),Inv X pins σ H s→RelV x v→Vals xs us→r x xs H Q →
  wpAny (model X.prog X.w) X.A (call (.builtin id) (v::us)) (EP X pins σ Q) X.xe s
theorem Vals.cinv {x:V}{xs:List V}:∀ {us:List Value},Vals (x::xs) us→∃ u r,us=u::r∧RelV x u∧Vals xs r
 | _,.cons r t=>⟨_,_,rfl,r,t⟩
theorem Vals.ninv:∀ {us:List Value},Vals [] us→us=[]
 | _,.nil=>rfl
theorem Vals.one {x:V}{us:List Value} (h:Vals [x] us):∃ u,us=[u]∧RelV x u:=by
 obtain ⟨u,r,rfl,a,t⟩:=h.cinv
 rw [t.ninv]
 exact ⟨u,rfl,a⟩
theorem Vals.two {x y:V}{us:List Value} (h:Vals [x,y] us):∃ u v,us=[u,v]∧RelV x u∧RelV y v:=by
 obtain ⟨u,r,rfl,a,t⟩:=h.cinv
 obtain ⟨v,rfl,b⟩:=t.one
 exact ⟨u,v,rfl,a,b⟩
theorem Vals.zero:∀ {us:List Value},Vals [] us→us=[]
 | _,.nil=>rfl
theorem Vals.dropLast {xs:List V}{us:List Value} (h:Vals xs us):Vals xs.dropLast us.dropLast:=by
 induction h with
 | nil=>exact .nil
 | cons r t ih =>
  cases t with
  | nil=>exact .nil
  | cons q t'=>exact .cons r ih
theorem zLs {α:Type} (l:List α):l.eraseIdx (l.length - 1)=l.dropLast:=by
 induction l with
 | nil=>rfl
 | cons a r ih =>
  cases r with
  | nil=>rfl
  | cons b r =>
   have e:(a::b::r).length - 1=((b::r).length - 1)+1:=by
    have h1:(a::b::r).length=r.length+2:=rfl
    have h2:(b::r).length=r.length+1:=rfl
    omega
   rw [e,List.eraseIdx_cons_succ,ih]
   all_goals rfl
section
variable {X:Cx}{pins:List (Addr × Obj)}{σ:St}{H:Hp}{s:Shared}{l b:Addr}{xs ys zs:List V}
theorem Inv.lset {its its':List Value}{n:Nat}{f:Array Value→Array Value}{t':Nat} (I:Inv X pins σ H s) (hH:H l=some (.lst xs))
  (e:s.heap.get? l=some { cls:=.type "list",data:=.seq its.toArray n }) (hf:f its.toArray=its'.toArray) (hv:Vals ys its') (hz:ys.length≤sizeLine) :
  Inv X pins σ (upd H l (.lst ys)) { s with heap:=s.heap.update l (Obj.mapSeq f),toks:=t' }:=by
 have q:=PySem.IsL.update e f
 rw [hf] at q
 refine I.write (x:=l) (e:=l) (by rw [hH]; exact trivial) (.inl rfl) (fun b' u hb hu=>(qK7 s.heap (Obj.mapSeq f) (Ne.symm hb)).trans hu) ⟨_,q⟩ ?_
 exact ⟨hz,its',_,hv,q⟩
theorem Inv.lnew {its:List Value}{t':Nat} (I:Inv X pins σ H s) (hv:Vals ys its) (hz:ys.length≤sizeLine) :
  Inv X pins σ (upd H s.heap.objs.size (.lst ys)) { s with heap:=s.heap.push { cls:=.type "list",data:=.seq its.toArray },toks:=t' } :=
 I.laid (fun _ _ q=>qA5 _ q) (qB0 _) ⟨hz,its,0,hv,qB4 _ rfl⟩
theorem Inv.fresh (I:Inv X pins σ H s):H s.heap.objs.size=none:=I.hok.fresh (qB0 _)
theorem Inv.lstM (I:Inv X pins σ H s) (hH:H l=some (.lst xs)):xs.length≤sizeLine∧∃ (its:List Value) (n:Nat),Vals xs its∧xs.length=its.length∧s.heap.get? l=some { cls:=.type "list",data:=.seq its.toArray n }:=by
 obtain ⟨z,its,n,r,e⟩:=I.hok l _ hH
 exact ⟨z,its,n,r,r.length,e⟩
theorem zKg {n:Nat} (h:n≤sizeLine):Builtin.List.listTooLong n=false:=by
 unfold Builtin.List.listTooLong
 exact decide_eq_false (by omega)
end
section
variable {X:Cx}
noncomputable def zR4:V→List V→Hp→VK→Prop:=fun x vs H Q=>∃ l xs y,x=.ref l∧vs=[y]∧H l=some (.lst xs)∧xs.length<sizeLine∧Q .non (upd H l (.lst (xs++[y])))
theorem zHO:MtM X "list.append" zR4:=by
 intro pins s σ H x vs v us Q I rx rv h
 obtain ⟨l,xs,y,rfl,rfl,hH,hz,q⟩:=h
 cases rx
 obtain ⟨u,rfl,ru⟩:=rv.one
 obtain ⟨z,its,n,r,hl,e⟩:=I.lstM hH
 refine call_meets F.slot_list_append ⟨_,e,rfl⟩ F.entry_list_append (F.args_list_append_2 _ _) (PySem.list_append l its.toArray n u (by rw [qA8]; omega)) ⟨e,?_⟩
 refine ⟨.non,_,I.lset (its':=its++[u]) hH e (by simp) (r.append (.cons ru .nil)) ?_,rfl,q⟩
 rw [qB2,qP2]
 omega
noncomputable def zR3:V→List V→Hp→VK→Prop:=fun x vs H Q=>∃ l b xs zs,x=.ref l∧vs=[.ref b]∧H l=some (.lst xs)∧H b=some (.lst zs)∧xs.length+zs.length≤sizeLine∧Q .non (upd H l (.lst (xs++zs)))
theorem zMQ:MtM X "list.extend" zR3:=by
 intro pins s σ H x vs v us Q I rx rv h
 obtain ⟨l,b,xs,zs,rfl,rfl,hH,hB,hz,q⟩:=h
 cases rx
 obtain ⟨u,rfl,ru⟩:=rv.one
 cases ru
 obtain ⟨z,its,n,r,hl,e⟩:=I.lstM hH
 obtain ⟨z2,its2,n2,r2,hl2,e2⟩:=I.lstM hB
 have hsz:its.toArray.size+its2.toArray.size≤sizeLine:=by rw [qA8,qA8]; omega
 have hlong:¬ (!its.toArray.isEmpty&&Builtin.List.listTooLong (its.toArray.size+its2.toArray.size))=true:=by
  rw [zKg hsz,qT3]
  exact qB1
 refine call_meets F.slot_list_extend ⟨_,e,rfl⟩ F.entry_list_extend (F.args_list_extend_2 _ _)
  (AutoSeq1.list_extend_list_list_0 l its.toArray n b its2.toArray n2 hlong (by rw [qA8]; omega) (by omega)) ⟨e,e2,?_⟩
 refine ⟨.non,_,I.lset (its':=its++its2) hH e (by simp) (r.append r2) ?_,rfl,q⟩
 rw [qB2]
 omega
noncomputable def rPop:V→List V→Hp→VK→Prop:=fun x vs H Q=>∃ l xs y,x=.ref l∧vs=[]∧H l=some (.lst xs)∧xs[xs.length - 1]?=some y∧Q y (upd H l (.lst xs.dropLast))
theorem zU3:MtM X "list.pop" rPop:=by
 intro pins s σ H x vs v us Q I rx rv h
 obtain ⟨l,xs,y,rfl,rfl,hH,hy,q⟩:=h
 cases rx
 have hus:=rv.zero
 subst hus
 obtain ⟨z,its,n,r,hl,e⟩:=I.lstM hH
 obtain ⟨u,hu,ru⟩:=r.get hy
 have hy':its.toArray[its.toArray.size - 1]?=some u:=by
  show its.toArray[its.length - 1]?=some u
  rw [← Array.getElem?_toList,← hl]
  exact hu
 refine call_meets F.slot_list_pop ⟨_,e,rfl⟩ F.entry_list_pop (F.args_list_pop_1 _) (MeetsSeq.list_pop_last l its.toArray n u hy' (by rw [qA8]; omega)) ⟨e,?_⟩
 refine ⟨y,_,I.lset (its':=its.dropLast) hH e ?_ r.dropLast ?_,ru,q⟩
 ·show its.toArray.eraseIdxIfInBounds (its.toArray.size - 1)=its.dropLast.toArray
  rw [qA8,List.eraseIdxIfInBounds_toArray,zLs]
 ·rw [List.length_dropLast]
  omega
noncomputable def rCat:R2:=fun x y H Q=>∃ l b xs zs,x=.ref l∧y=.ref b∧H l=some (.lst xs)∧H b=some (.lst zs)∧xs.length+zs.length≤sizeLine∧∀ p,H p=none→Q (.ref p) (upd H p (.lst (xs++zs)))
theorem zTX:OpR X (binaryOp .Add) rCat:=by
 intro pins s σ H x y v u Q I rx ry h
 obtain ⟨l,b,xs,zs,rfl,rfl,hH,hB,hz,q⟩:=h
 cases rx
 cases ry
 obtain ⟨z,its,n,r,hl,e⟩:=I.lstM hH
 obtain ⟨z2,its2,n2,r2,hl2,e2⟩:=I.lstM hB
 refine PySem.P.add_list e e2 ?_ (by rw [qA8,qA8]; omega)
 have ea:its.toArray++its2.toArray=(its++its2).toArray:=by simp
 rw [ea]
 exact ⟨.ref _,_,I.lnew (t':=s.toks) (r.append r2) (by rw [qB2]; omega),rfl,q _ I.fresh⟩
end
end L2
namespace Att
open PySem PySem.W PySem.Calls PyProof.Rows
theorem zFd {P:Params}{h:Heap}:∀ (ns:List Int) (vs:List Value),WellAll P h vs (ns.map WData.int)→IntsAre vs ns:=by
 intro ns
 induction ns with
 | nil =>
  intro vs w
  rw [qI1] at w
  cases w
  exact .nil
 | cons n ns ih =>
  intro vs w
  rw [qC1] at w
  cases w with
  | cons a b =>
   cases a
   exact .cons _ _ (ih _ b)
theorem zMm {l:OpenLaw}{n:Nat} (hn:l.most=some n) {P:Params}{h:Heap}{args:List WData}{vals:List Value}
  (hpre:l.row.toRowW.claim.pre args=true) (hwl:WellAll P h vals args) :
  ∃ a vs ns,vals=[Value.ref a]∧args=[WData.list (ns.map WData.int)]∧h.get? a=some { cls:=.type "list",data:=.seq vs.toArray }∧IntsAre vs ns∧ns.length≤n:=by
 have hsh:WShape.hasAll [] args [.list .int]=true:=(pre_splitW hpre).1
 have hc:l.pre.holds [] { args:=args }=true:=(pre_splitW hpre).2
 obtain ⟨d,r,rfl,h1,h2⟩:=hasAllW_cons hsh
 obtain rfl:=hasAllW_nil h2
 obtain ⟨xs,rfl,h3⟩:=hasW_list h1
 obtain ⟨ns,rfl⟩:=items_int h3
 have hlen:ns.length≤n:=by
  unfold OpenLaw.pre at hc
  have h4:(WTm.not (.lt (.lit (.int (n:Int))) (.len (.arg 0)))).holds [] { args:=[.list (ns.map .int)] }=true:=by
   have h4:=(holds_andW hc).1
   rw [hn] at h4
   exact h4
  have h5:=condW_of h4 (w_not (w_lt w_lit (w_len_list (w_arg rfl))))
  rw [qA2] at h5
  refine qO1 fun q=>?_
  have q':(n:Int)<((ns.length:Nat):Int):=by omega
  first
   | (rw [decide_eq_true q'] at h5; exact absurd h5 (by decide))
   | (simp at h5; omega)
 cases hwl with
 | cons w1 w2 =>
  cases w2
  cases w1 with
  | list ho hall=>exact ⟨_,_,ns,rfl,rfl,ho,zFd ns _ hall,hlen⟩
theorem zMu (l:OpenLaw) (args:List WData):l.row.toRowW.claim.post args (.bool true) args=true :=
 postW_of (r:=l.row.toRowW) (X:=(true == true))
  (show WShape.has [] (.bool true) .bool=true by first | rfl | decide | simp [WShape.has,WShape.arms,WShape.armsAll])
  (show (WTm.eq .res (.lit (.bool true))).value [] { args:=args,res:=some (.bool true),after:=args }=some (.bool (true == true)) from w_eq_bool (w_res rfl) w_lit) rfl
theorem attach_call {l:OpenLaw}{n:Nat}{q:Program}{loose:List Str}{XP:(Str→Option Value)→Heap→Prop}{YP:World→Heap→Prop}{d:DefRec}
  (hn:l.most=some n) (hdf:d.params.defaults=[])
  (call:∀ (w:World) (s₀ s₁:Shared) (mg mb:Str→Option Value) (fa:Addr) (o:Obj) (pm cd doc:Value) (a:Addr) (vs:List Value) (ns:List Int),
   Ground q loose [] XP w s₀ mg mb s₁.heap→YP w s₁.heap →
   s₁.heap.get? fa=some o→o.data=.func (docDef d.name d.params d.body d.scope pm cd doc)→s₁.heap.CodeRec cd d.name→mg d.name=some (.ref fa) →
   s₁.heap.get? a=some { cls:=.type "list",data:=.seq vs.toArray }→IntsAre vs ns→ns.length≤n→s₁.gens=#[] →
   codeAny (model l.prog w) callerA (.call (.ref fa) ⟨[.ref a],[]⟩) (fun r s'=>r=.ok (.ret (.bool true))∧OldK s₁.heap s'.heap∧s'.os=s₁.os∧AllBare s'.gens) s₁) :
  WalkO q loose XP YP l.row.toRowW d [] (fun f vs=>PySem.call f vs):=by
 intro w s₀ s₁ mg mb G Y fa o pm cd doc dV kV ho hd hcd hD hmg hg args vals as hpre hlay hrd hwl hlo
 obtain rfl:dV=.none:=Dflts.none hD hdf
 obtain rfl:kV=.none:=Dflts.noKw hD
 obtain ⟨a,vs,ns,rfl,rfl,hobj,hints,hlen⟩:=zMm hn hpre hwl
 refine enter_call (codeAny_mono (call w s₀ s₁ mg mb fa o pm cd doc a vs ns G Y ho (fd_plain hd) hcd hmg hobj hints hlen hg) fun r s' hq=>?_)
 obtain ⟨rfl,h2,h3,h4⟩:=hq
 exact ⟨.inl ⟨.bool true,.bool true,[],rfl,fun _=>rfl,.bool true,zMu l _,fun _=>⟨List.Pairwise.nil,fun _ hm=>(nomatch hm)⟩⟩,h2,h3,h4⟩
end Att
namespace L2
open PySem PySem.Spec PyProof.Rows
theorem zHp:∀ {vs:List Value}{ns:List Int},IntsAre vs ns→Vals (ns.map V.int) vs
 | _,_,.nil=>.nil
 | _,_,.cons n t h=>.cons ⟨t,rfl⟩ (zHp h)
def Only (H:Hp):Prop:=∀ b,H b=none∨∃ o xs,H b=some (.frz o (.lst xs))
theorem zPe {P:Program}{w:World}{K:W.Frag}{mg mb:Str→Option Value}{CX:CXT}{k:Nat}{fa a:Addr}{fd:FuncData}{x:Str}{sp:Sp}{s₁:Shared}{vs:List Value}{ns:List Int}
  (KX:K.In s₁.heap) (hns:s₁.heap.Ns mainGlobals mg) (hb:s₁.heap.Ns builtinsNs mb) (hbb:∀ x:Str,x ≠ "__name__"→mb x=bootBuiltins x) (hlim:s₁.heap.NoLimit) (hg:s₁.gens=#[])
  (ha:s₁.heap.get? a=some { cls:=.type "list",data:=.seq vs.toArray }) (hi:IntsAre vs ns) (hl:ns.length≤sizeLine) (hr:Room k callerA)
  (F:∀ base:Heap,K.In base→base.Ns mainGlobals mg→FnOk P w K mg base CX k fa fd [x] sp) (hbind:∀ (s:Shared) (u:Value),BindsTo s fd ⟨[u],[]⟩ [(x,u)])
  (hsp:∀ H:Hp,Only H→SqL K H a (ns.map V.int)→sp [.ref a] H (fun v _=>v=.bl true) fun _ _ _=>False)
  (hCX:∀ H e s',CX [] H s₁ (fun _ _ _=>False) e s'→False) :
  codeAny (model P w) callerA (.call (.ref fa) ⟨[.ref a],[]⟩) (fun r s'=>r=.ok (.ret (.bool true))∧OldK s₁.heap s'.heap∧s'.os=s₁.os∧AllBare s'.gens) s₁:=by
 have rv:=zHp hi
 have lenV:=hi.length
 have core:∀ H:Hp,Only H→SqL K H a (ns.map V.int)→HOk P w H s₁.heap→(∀ b,H b≠none→b=a)→(H a≠none→K.lookup a=none) →
   codeAny (model P w) callerA (.call (.ref fa) ⟨[.ref a],[]⟩) (fun r s'=>r=.ok (.ret (.bool true))∧OldK s₁.heap s'.heap∧s'.os=s₁.os∧AllBare s'.gens) s₁:=by
  intro H hO hS hok hA hK
  have base_of:∀ {b:Addr}{o:Obj},s₁.heap.get? b=some o→H b=none→(hidT s₁.heap H).get? b=some o:=fun e n=>zPw e n
  have noA:∀ {b:Addr}{o:Obj}{es:Array DictEntry}{ep:Nat},s₁.heap.get? b=some o→o.data=.dict es ep→H b=none:=fun {b o es ep} e d=>by
   cases q:H b with
   | none=>rfl
   | some u =>
    have e':b=a:=hA b (by rw [q]; simp)
    subst e'
    rw [ha] at e; cases e
    have d':Data.seq vs.toArray _=Data.dict es ep:=d
    cases d'
  have nsK:∀ {b:Addr}{m:Str→Option Value},s₁.heap.Ns b m→(hidT s₁.heap H).Ns b m:=fun {b m} ⟨o,es,ep,e,d,r⟩=>⟨o,es,ep,base_of e (noA e d),d,r⟩
  have hKb:K.In (hidT s₁.heap H):=fun b o e=>base_of (KX b o e) (by
   cases q:H b with
   | none=>rfl
   | some u =>
    have e':b=a:=hA b (by rw [q]; simp)
    subst e'
    rw [hK (by rw [q]; simp)] at e; cases e)
  have hM:Mod K mg (hidT s₁.heap H):=⟨hKb,nsK hns,⟨mb,nsK hb,hbb⟩,let ⟨mc,h1,h2⟩:=hlim; ⟨mc,nsK h1,h2⟩⟩
  have e0:Env0 P w K mg (hidT s₁.heap H) callerA [] s₁ H:=⟨rfl,hM,fun b o e=>zRs e,Nat.le_of_eq (zNj _ _),trivial,fun b hb=>absurd (show b∈([]:List Addr) from hb) (by simp),hok,.of_eq hg⟩
  refine codeAny_mono ((F _ hKb (nsK hns)).run callerA [] s₁ H ⟨[.ref a],[]⟩ [.ref a] [.ref a] _ _ hr e0 (hbind s₁ (.ref a)) (.cons rfl .nil) (hsp H hO hS)) fun r s' h=>?_
  cases r with
  | error e=>exact (hCX H e s' h).elim
  | ok fl =>
   cases fl with
   | next=>exact False.elim h
   | brk=>exact False.elim h
   | cont=>exact False.elim h
   | ret u =>
    obtain ⟨v,H',os,bare,un,hok',r',q⟩:=h
    have q':v=.bl true:=q
    subst q'
    obtain rfl:u=Value.bool true:=r'
    refine ⟨rfl,OldK.of_keep fun b o e=>?_,os,bare⟩
    cases q:H b with
    | none=>exact un.keep b o e q (by intro z; exact absurd (show b∈([]:List Addr) from z) (by simp)) (by simp)
    | some u =>
     rcases hO b with z | ⟨ob,xs,z⟩
     ·rw [q] at z; cases z
     ·have z2:=un.frzs b ob _ z
      obtain ⟨e1,_⟩:=hok b _ z
      obtain ⟨e2,_⟩:=hok' b _ z2
      rw [e] at e1; cases e1
      exact e2
 cases hk:K.lookup a with
 | some o =>
  have e:=KX a o hk
  rw [ha] at e
  cases e
  refine core (fun _=>none) (fun _=>.inl rfl) (.inr ⟨_,vs.toArray,_,hk,rfl,rfl,rfl,by rw [qA8,lenV]; exact hl,by simpa using rv⟩) (fun b u z=>by have z':(none:Option HO)=some u:=z; cases z') (fun b z=>absurd rfl z) fun z=>absurd rfl z
 | none =>
  refine core (fun b=>if b=a then some (.frz { cls:=.type "list",data:=.seq vs.toArray } (.lst (ns.map V.int))) else none) (fun b=>?_) (.inl (.inr ⟨{ cls:=.type "list",data:=.seq vs.toArray },if_pos rfl⟩)) (fun b u z=>?_) (fun b z=>?_) fun _=>hk
  ·by_cases hb:b=a
   ·exact .inr ⟨_,_,if_pos hb⟩
   ·exact .inl (if_neg hb)
  ·by_cases hb:b=a
   ·have z':=(if_pos hb).symm.trans z
    cases z'
    subst hb
    exact ⟨ha,by rw [qA2]; exact hl,vs,_,rv,ha⟩
   ·have z':=(if_neg hb).symm.trans z
    cases z'
  ·by_cases hb:b=a
   ·exact hb
   ·exact absurd (if_neg hb) z
theorem walk_of {l:W.OpenLaw}{n k:Nat}{q:Program}{loose:List Str}{XP:(Str→Option Value)→Heap→Prop}{YP:World→Heap→Prop}{d:DefRec}{K:Params→W.Frag}{CX:World→CXT}{sp:World→Sp}{x:Str}
  (hn:l.most=some n) (hn2:n≤sizeLine) (hdf:d.params.defaults=[]) (hr:Room k callerA)
  (hY:∀ (w:World) (h:Heap),YP w h→(K w.params).In h)
  (F:∀ (w:World) (mg:Str→Option Value) (fa:Addr) (h:Heap),(K w.params).In h→h.Ns mainGlobals mg→mg d.name=some (.ref fa) →
   ∃ fd:FuncData,(∀ (s:Shared) (u:Value),BindsTo s fd ⟨[u],[]⟩ [(x,u)]) ∧
    ∀ base:Heap,(K w.params).In base→base.Ns mainGlobals mg→FnOk l.prog w (K w.params) mg base (CX w) k fa fd [x] (sp w))
  (hsp:∀ (w:World) (H:Hp) (a:Addr) (ns:List Int),ns.length≤n→Only H→SqL (K w.params) H a (ns.map V.int)→sp w [.ref a] H (fun v _=>v=.bl true) fun _ _ _=>False)
  (hCX:∀ (w:World) (H:Hp) (s:Shared) (e:Value) (s':Shared),CX w [] H s (fun _ _ _=>False) e s'→False) :
  W.WalkO q loose XP YP l.row.toRowW d [] (fun f vs=>PySem.call f vs):=by
 refine Att.attach_call hn hdf fun w s₀ s₁ mg mb fa o pm cd doc a vs ns G Y ho hd hcd hmg hobj hints hlen hg=>?_
 have KX:=hY w _ Y
 obtain ⟨fd,hb,hF⟩:=F w mg fa _ KX G.T.g hmg
 exact zPe KX G.T.g G.T.b G.T.builtins G.T.nolimit hg hobj hints (qC5 hlen hn2) hr hF hb (fun H hO hS=>hsp w H a ns hlen hO hS) fun H e s'=>hCX w H s₁ e s'
noncomputable def zCF (s:Stmt):Arguments:=match s with
 | .FunctionDef _ a _ _ _ _ _ _ _ _=>a
 | _=>{ posonlyargs:=[],args:=[],vararg:=none,kwonlyargs:=[],kw_defaults:=[],kwarg:=none,defaults:=[] }
noncomputable def zAJ (s:Stmt):List Stmt:=match s with
 | .FunctionDef _ _ b _ _ _ _ _ _ _=>b
 | _=>[]
noncomputable def zA3 (s:Stmt):Scope:=match s with
 | .FunctionDef _ _ _ _ _ _ sc _ _ _=>sc
 | _=>{ kind:=.function,names:=[],isGenerator:=false,isCoroutine:=false }
noncomputable abbrev CX0:CXT:=fun _ _ _ _ _ _=>False
noncomputable abbrev E0:XK:=fun _ _ _=>False
theorem zWq {X:Cx}:zOe CX0 X E0:=fun _ _ _ _ _ _ _ h=>h.elim
structure Fun (K:W.Frag) (x qual:Str) (st:Stmt) (f:Addr) (fd:FuncData):Prop where
 ex:∃ (oc:Value) (od:Option Addr) (kV doc pm:Value) (an:Option Addr) (cdv ct:Value) (osl:Array (Option Value)),
  fd=W.fnOf x qual (zCF st) (zAJ st) (zA3 st) .none kV doc pm an cdv ct∧K.lookup f=some ⟨oc,od,.func fd,osl⟩∧W.codeIn K cdv qual=true
 kp:W.keepIn K (.ref f)=true
section
variable {P:Program}{w:World}{K:W.Frag}{mg:Str→Option Value}{base:Heap}
theorem Fun.ok {x qual:Str}{st:Stmt}{f:Addr}{fd:FuncData}{N ps:List Str}{k:Nat}{sp:Sp} (F:Fun K x qual st f fd) (S:zHj N ps (zA3 st)) (len:∀ vs H Q E,sp vs H Q E→vs.length=ps.length)
  (hbody:∀ (cdv:Value) (A:Around) (outer:List Env) (s:Shared) (H:Hp) (vs:List V) (Q:VK) (E:XK),Room k (A.deeper (envOfC qual (zA3 st) s.heap.objs.size f cdv))→sp vs H Q E →
   ∃ t,PSs (cxOf CX0 P w K mg base N qual (zA3 st) f cdv A outer s H E).nox (zAJ st) t∧t { nx:=fun _ H'=>Q .non H',rt:=Q } (start N vs) H):FnOk P w K mg base CX0 (k+1) f fd ps sp:=by
 obtain ⟨oc,od,kV,doc,pm,an,cdv,ct,osl,rfl,lk,hcd⟩:=F.ex
 refine zXb lk hcd S len fun A outer s H vs Q E hr hsp=>?_
 obtain ⟨t,h,q⟩:=hbody cdv A outer s H vs Q E hr hsp
 exact ⟨t,h.nox,q⟩
theorem Fun.binds {x qual:Str}{st:Stmt}{f:Addr}{fd:FuncData}{ps:List Str} (F:Fun K x qual st f fd)
  (h:∀ (kV doc pm:Value) (an:Option Addr) (cdv ct:Value) (us:List Value),us.length=ps.length→bindArgs (W.fnOf x qual (zCF st) (zAJ st) (zA3 st) .none kV doc pm an cdv ct) ⟨us,[]⟩=pure (ps.zip us)):zHk K fd ps []:=by
 obtain ⟨oc,od,kV,doc,pm,an,cdv,ct,osl,rfl,lk,hcd⟩:=F.ex
 exact .all (h kV doc pm an cdv ct)
theorem zUE {x qual:Str}{st:Stmt}{f:Addr}{oc:Value}{od an:Option Addr}{osl:Array (Option Value)}{kV doc pm cdv ct:Value} (l:K.lookup f=some ⟨oc,od,.func (W.fnOf x qual (zCF st) (zAJ st) (zA3 st) .none kV doc pm an cdv ct),osl⟩)
  (c:W.codeIn K cdv qual=true) (k:W.keepIn K (.ref f)=true):Fun K x qual st f (W.fnOf x qual (zCF st) (zAJ st) (zA3 st) .none kV doc pm an cdv ct):=⟨⟨oc,od,kV,doc,pm,an,cdv,ct,osl,rfl,l,c⟩,k⟩
end
theorem zPu {A:Around}{k:Nat} (hr:Room k A):A.units+1<cLine:=qH6 (Nat.add_le_add_left (by decide:1≤64) _) hr.units
theorem zHx {n:Nat} (h:n≤1000):n<sizeLine:=qH6 h (by decide)
def Same (H H':Hp):Prop:=∀ b o,H b=some o→H' b=some o
theorem Same.refl (H:Hp):Same H H:=fun _ _ h=>h
section
variable {κ:Type} [DecidableEq κ]
noncomputable def valV (kvs:List (κ × V)) (k:κ):Option V:=(kvs.find? fun kv=>decide (kv.1=k)).map (·.2)
noncomputable def putK (kvs:List (κ × V)) (k:κ) (v:V):List (κ × V) :=
 if (kvs.any fun kv=>decide (kv.1=k))=true then kvs.map (fun kv=>if kv.1=k then (kv.1,v) else kv) else kvs++[(k,v)]
theorem zEG {p:κ × V}{r:List (κ × V)}{k:κ} (e:p.1=k):valV (p::r) k=some p.2:=by simp [valV,qE5,e]
theorem zEH {p:κ × V}{r:List (κ × V)}{k:κ} (e:¬ p.1=k):valV (p::r) k=valV r k:=by simp [valV,qE5,e]
theorem zJY (k:κ):∀ kvs:List (κ × V),(kvs.any fun kv=>decide (kv.1=k))=(valV kvs k).isSome
 | []=>rfl
 | p::r=>by
  rw [qG8]
  by_cases e:p.1=k
  ·simp only [zEG e,decide_eq_true e,Bool.true_or,qN0]
  ·rw [zEH e,decide_eq_false e,Bool.false_or]; exact zJY k r
theorem zCE (kvs:List (κ × V)) (k:κ) (v:V):(putK kvs k v).length≤kvs.length+1:=by
 unfold putK
 split
 ·rw [qA2]; omega
 ·rw [qB2,qD0,qI0]; omega
theorem RelO.isSome_eq {o:Option V}{u:Option Value} (r:RelO o u):o.isSome=u.isSome:=by
 cases o with
 | none=>cases u with
  | none=>rfl
  | some _=>exact (show False from r).elim
 | some _=>cases u with
  | none=>exact (show False from r).elim
  | some _=>rfl
theorem KV.val {kvs:List (κ × V)}{vs:List (κ × Value)} (r:KV kvs vs) (k:κ):RelO (valV kvs k) (valueAt vs k):=by
 unfold KV at r
 induction r with
 | nil=>exact True.intro
 | @cons p q ps qs h t ih =>
  obtain ⟨h1,h2⟩:=h
  by_cases e:p.1=k
  ·have e':q.1=k:=h1.symm.trans e
   have b:valueAt (q::qs) k=some q.2:=by simp [valueAt,qE5,e']
   rw [zEG e,b]; exact h2
  ·have e':¬ q.1=k:=fun z=>e (h1.trans z)
   have b:valueAt (q::qs) k=valueAt qs k:=by simp [valueAt,qE5,e']
   rw [zEH e,b]; exact ih
theorem KV.any {kvs:List (κ × V)}{vs:List (κ × Value)} (r:KV kvs vs) (k:κ):(kvs.any fun kv=>decide (kv.1=k))=vs.any fun kv=>decide (kv.1=k):=by
 unfold KV at r
 induction r with
 | nil=>rfl
 | cons h t ih=>rw [qG8,qG8,ih,h.1]
theorem KV.repl {kvs:List (κ × V)}{vs:List (κ × Value)} (r:KV kvs vs) (k:κ) {y:V}{u:Value} (ry:RelV y u) :
  KV (kvs.map fun kv=>if kv.1=k then (kv.1,y) else kv) (vs.map fun kv=>if kv.1=k then (kv.1,u) else kv):=by
 unfold KV at r ⊢
 induction r with
 | nil=>exact .nil
 | @cons p q ps qs h t ih =>
  rw [qC1,qC1]
  refine .cons ?_ ih
  obtain ⟨h1,h2⟩:=h
  by_cases e:p.1=k
  ·rw [if_pos e,if_pos (h1.symm.trans e)]; exact ⟨h1,ry⟩
  ·rw [if_neg e,if_neg (fun z=>e (h1.trans z))]; exact ⟨h1,h2⟩
theorem KV.put {kvs:List (κ × V)}{vs:List (κ × Value)} (r:KV kvs vs) (k:κ) {y:V}{u:Value} (ry:RelV y u):KV (putK kvs k y) (stored vs k u):=by
 unfold putK stored
 rw [r.any k]
 by_cases e:(vs.any fun kv=>decide (kv.1=k))=true
 ·rw [if_pos e,if_pos e]; exact r.repl k ry
 ·rw [if_neg e,if_neg e]; exact Paired.snoc r ⟨rfl,ry⟩
theorem KV.length {kvs:List (κ × V)}{vs:List (κ × Value)} (r:KV kvs vs):kvs.length=vs.length:=Paired.length r
end
theorem zJ8 {P:Program}{w:World}{k:Key}{u:Value} (r:RelV (kV k) u):(zAn P w).is k u=true:=by
 cases k with
 | inl i=>obtain ⟨t,e⟩:=(show ∃ t,u=Value.int i t from r); subst e; exact zJ5 P w i t
 | inr x=>obtain ⟨t,e⟩:=(show ∃ t,u=Value.str x t from r); subst e; exact zJ4 P w x t
theorem zHR {P:Program}{w:World}:∀ {ks:List Key}{us:List Value},Vals (ks.map kV) us→ItemsAre (zAn P w) ks us
 | [],_,r=>by rw [qI1] at r; cases r; exact .nil
 | k::ks,_,r=>by
  rw [qC1] at r
  cases r with
  | cons h t=>exact .cons (zJ8 h) (zHR t)
noncomputable abbrev KT (H:Hp):List (List Key × V)→List (List Key × Addr × Value)→Prop:=Paired fun p q=>p.1=q.1∧H q.2.1=some (.tup (p.1.map kV))∧RelV p.2 q.2.2
theorem KT.val {H:Hp}{kvs:List (List Key × V)}{xs:List (List Key × Addr × Value)} (r:KT H kvs xs) (k:List Key):RelO (valV kvs k) ((atKey xs k).map (·.2)):=by
 induction r with
 | nil=>exact True.intro
 | @cons p q ps qs h t ih =>
  obtain ⟨h1,_,h2⟩:=h
  by_cases e:p.1=k
  ·have e':q.1=k:=h1.symm.trans e
   have b:atKey (q::qs) k=some q.2:=by simp [atKey,qE5,e']
   rw [zEG e,b]; exact h2
  ·have e':¬ q.1=k:=fun z=>e (h1.trans z)
   have b:atKey (q::qs) k=atKey qs k:=by simp [atKey,qE5,e']
   rw [zEH e,b]; exact ih
theorem KT.repl {H:Hp}{kvs:List (List Key × V)}{xs:List (List Key × Addr × Value)} (r:KT H kvs xs) (k:List Key) {y:V}{u:Value} (ry:RelV y u) :
  KT H (kvs.map fun kv=>if kv.1=k then (kv.1,y) else kv) (xs.map (putAt k u)):=by
 induction r with
 | nil=>exact .nil
 | @cons p q ps qs h t ih =>
  rw [qC1,qC1]
  refine .cons ?_ ih
  obtain ⟨h1,h2,h3⟩:=h
  unfold putAt
  by_cases e:p.1=k
  ·rw [if_pos e,if_pos (h1.symm.trans e)]; exact ⟨h1,h2,ry⟩
  ·rw [if_neg e,if_neg (fun z=>e (h1.trans z))]; exact ⟨h1,h2,h3⟩
theorem KT.put {H:Hp}{kvs:List (List Key × V)}{xs:List (List Key × Addr × Value)} (r:KT H kvs xs) (k:List Key) {b:Addr}{y:V}{u:Value} (hb:H b=some (.tup (k.map kV))) (ry:RelV y u) :
  KT H (putK kvs k y) (storedH xs k b u):=by
 have e:(kvs.any fun kv=>decide (kv.1=k))=(atKey xs k).isSome:=by
  rw [zJY,(r.val k).isSome_eq,qN5]
 unfold putK storedH
 rw [e]
 by_cases q:(atKey xs k).isSome=true
 ·rw [if_pos q,if_pos q]; exact r.repl k ry
 ·rw [if_neg q,if_neg q]; exact Paired.snoc r ⟨rfl,hb,ry⟩
theorem KT.keeps {H H':Hp}{kvs:List (List Key × V)}{xs:List (List Key × Addr × Value)} (r:KT H kvs xs) (ht:∀ b ys,H b=some (.tup ys)→H' b=some (.tup ys)):KT H' kvs xs :=
 Paired.mapP r fun _ _ z=>⟨z.1,ht _ _ z.2.1,z.2.2⟩
section
variable {P:Program}{w:World}{H:Hp}{h:Heap}{a:Addr}
theorem zTh {u:HO} (ok:HOk P w H h) (e:Rd H a u):zBL P w H h a u:=e.ok ok
theorem zNz {kvs:List (Key × V)} (ok:HOk P w H h) (e:Rd H a (.dK kvs)):kvs.length≤sizeLine∧(a == sysModules)=false∧∃ vs,KV kvs vs∧h.DictOf (zAn P w) a vs :=
 show zBL P w H h a (.dK kvs) from zTh ok e
theorem zNA {kvs:List (Key × V)} (ok:HOk P w H h) (e:H a=some (.dK kvs)):kvs.length≤sizeLine∧(a == sysModules)=false∧∃ vs,KV kvs vs∧h.DictOf (zAn P w) a vs:=zNz ok (.inl e)
theorem zGh {ks:List Key} (ok:HOk P w H h) (e:H a=some (.tup (ks.map kV))):(tupleKind (zAn P w)).is h ks a:=by
 obtain ⟨_,its,r,o,h1,h2,n,h3⟩:=(show zBL P w H h a (.tup (ks.map kV)) from ok a _ e)
 exact ⟨o,its.toArray,n,h1,h2,h3,by simpa using zHR r⟩
theorem zNx {kvs:List (List Key × V)} (ok:HOk P w H h) (e:Rd H a (.dT kvs)):kvs.length≤sizeLine∧(a == sysModules)=false ∧
  ∃ xs,KT H kvs xs∧h.DictOfH (tupleKind (zAn P w)) a xs:=by
 obtain ⟨z,y,xs,r,o,es,ep,h1,h2,h3,h4,h5⟩:=(show zBL P w H h a (.dT kvs) from zTh ok e)
 refine ⟨z,y,xs,r,o,es,ep,h1,h2,h3,h4,fun x hx=>?_,h5⟩
 have all:∀ {l:List (List Key × V)}{m:List (List Key × Addr × Value)},KT H l m→∀ x∈m,(tupleKind (zAn P w)).is h x.1 x.2.1:=by
  intro l m q
  induction q with
  | nil=>intro x hx; exact nomatch hx
  | @cons p q ps qs hq t ih =>
   intro x hx
   rcases qB9.mp hx with e | hx
   ·subst e
    exact zGh ok (by rw [← hq.1]; exact hq.2.1)
   ·exact ih x hx
 exact all r x hx
theorem zUK {kvs:List (List Key × V)} (ok:HOk P w H h) (e:H a=some (.dT kvs)):kvs.length≤sizeLine∧(a == sysModules)=false ∧
  ∃ xs,KT H kvs xs∧h.DictOfH (tupleKind (zAn P w)) a xs:=zNx ok (.inl e)
end
def DGet (H:Hp) (a:Addr) (y:V) (r:Option V):Prop :=
 (∃ kvs k,Rd H a (.dK kvs)∧y=kV k∧r=valV kvs k)∨∃ kvs k b,Rd H a (.dT kvs)∧y=.ref b∧H b=some (.tup (k.map kV))∧r=valV kvs k
def DPut (H:Hp) (a:Addr) (y v:V) (H':Hp):Prop :=
 (∃ kvs k,H a=some (.dK kvs)∧y=kV k∧kvs.length<sizeLine∧H'=upd H a (.dK (putK kvs k v))) ∨
 ∃ kvs k b,H a=some (.dT kvs)∧y=.ref b∧H b=some (.tup (k.map kV))∧kvs.length<sizeLine∧H'=upd H a (.dT (putK kvs k v))
theorem DGet.k {H:Hp}{a:Addr}{kvs:List (Key × V)}{k:Key} (e:H a=some (.dK kvs)):DGet H a (kV k) (valV kvs k):=.inl ⟨kvs,k,.inl e,rfl,rfl⟩
theorem DGet.t {H:Hp}{a b:Addr}{kvs:List (List Key × V)}{k:List Key} (e:H a=some (.dT kvs)) (eb:H b=some (.tup (k.map kV))):DGet H a (.ref b) (valV kvs k):=.inr ⟨kvs,k,b,.inl e,rfl,eb,rfl⟩
theorem DPut.k {H:Hp}{a:Addr}{kvs:List (Key × V)}{k:Key}{v:V} (e:H a=some (.dK kvs)) (hl:kvs.length<sizeLine):DPut H a (kV k) v (upd H a (.dK (putK kvs k v))):=.inl ⟨kvs,k,e,rfl,hl,rfl⟩
theorem DPut.t {H:Hp}{a b:Addr}{kvs:List (List Key × V)}{k:List Key}{v:V} (e:H a=some (.dT kvs)) (eb:H b=some (.tup (k.map kV))) (hl:kvs.length<sizeLine) :
  DPut H a (.ref b) v (upd H a (.dT (putK kvs k v))):=.inr ⟨kvs,k,b,e,rfl,eb,hl,rfl⟩
section
variable {X:Cx}{pins:List (Addr × Obj)}{σ:St}{H:Hp}{s:Shared}{a:Addr}{y v:V}{u r:Value}{o:Option V}{A:Around}{E:Value→Shared→Prop}
theorem Inv.big (I:Inv X pins σ H s):sysModules<s.heap.objs.size:=by
 have h:mainGlobals<s.heap.objs.size:=(I.mod.glob.keeps I.bk).lt
 exact qO4 (by decide) h
theorem zNF {Q:Value→Shared→Prop} (hu:A.units+1<cLine) (I:Inv X pins σ H s) (g:DGet H a y (some v)) (ry:RelV y u) (h:∀ w' s',Inv X pins σ H s'→RelV v w'→Q w' s') :
  wpAny (model X.prog X.w) A (getItem (.ref a) u) Q E s:=by
 rcases g with ⟨kvs,k,e,ey,l⟩ | ⟨kvs,k,b,e,ey,eb,l⟩
 ·subst ey
  obtain ⟨z,hd,vs,rel,dd⟩:=zNz I.hok e
  obtain ⟨w',hw,rw'⟩:=RelO.some_of (v:=v) (o:=valueAt vs k) (by rw [l]; exact rel.val k)
  exact wpAny_getItem_of (zJ8 ry) dd.mapOf hw (h w' _ (I.tok _) rw')
 ·subst ey
  cases (show u=Value.ref b from ry)
  obtain ⟨z,hd,xs,rel,dd⟩:=zNx I.hok e
  obtain ⟨w',hw,rw'⟩:=RelO.some_of (v:=v) (o:=(atKey xs k).map (·.2)) (by rw [l]; exact rel.val k)
  obtain ⟨p,hp,hp2⟩:=qA4.mp hw
  refine wpAny_getItem_heap (tupleKind_room_in1 hu) (zGh I.hok eb) dd hp ?_
  rw [hp2]
  exact h w' _ (I.tok _) rw'
theorem d_in {Q:Value→Shared→Prop} (hu:A.units+1<cLine) (I:Inv X pins σ H s) (g:DGet H a y o) (ry:RelV y u) (h:∀ s',Inv X pins σ H s'→Q (.bool o.isSome) s') :
  wpAny (model X.prog X.w) A (compareOp .In u (.ref a)) Q E s:=by
 rcases g with ⟨kvs,k,e,ey,l⟩ | ⟨kvs,k,b,e,ey,eb,l⟩
 ·subst ey
  obtain ⟨z,hd,vs,rel,dd⟩:=zNz I.hok e
  refine wpAny_in_of (zJ8 ry) hd dd.mapOf ?_
  rw [← (rel.val k).isSome_eq,← l]
  exact h _ (I.tok _)
 ·subst ey
  cases (show u=Value.ref b from ry)
  obtain ⟨z,hd,xs,rel,dd⟩:=zNx I.hok e
  refine wpAny_in_heap (tupleKind_room_in1 hu) (zGh I.hok eb) hd dd ?_
  have q:=(rel.val k).isSome_eq
  rw [qN5] at q
  rw [← q,← l]
  exact h _ (I.tok _)
theorem zS9 {Q:Value→Shared→Prop} (hu:A.units+1<cLine) (I:Inv X pins σ H s) (g:DGet H a y o) (ry:RelV y u) (h:∀ s',Inv X pins σ H s'→Q (.bool (!o.isSome)) s') :
  wpAny (model X.prog X.w) A (compareOp .NotIn u (.ref a)) Q E s:=by
 rcases g with ⟨kvs,k,e,ey,l⟩ | ⟨kvs,k,b,e,ey,eb,l⟩
 ·subst ey
  obtain ⟨z,hd,vs,rel,dd⟩:=zNz I.hok e
  refine wpAny_notIn_of (zJ8 ry) hd dd.mapOf ?_
  rw [← (rel.val k).isSome_eq,← l]
  exact h _ (I.tok _)
 ·subst ey
  cases (show u=Value.ref b from ry)
  obtain ⟨z,hd,xs,rel,dd⟩:=zNx I.hok e
  refine wpAny_notIn_heap (tupleKind_room_in1 hu) (zGh I.hok eb) hd dd ?_
  have q:=(rel.val k).isSome_eq
  rw [qN5] at q
  rw [← q,← l]
  exact h _ (I.tok _)
theorem zFp {h':Heap}{t':Nat}{ob:HO} (I:Inv X pins σ H s) (mu:Mut (H a)) (hs:qE2 a s.heap h') (he:∃ q,h'.get? a=some q) (new:zBL X.prog X.w (upd H a ob) h' a ob) :
  Inv X pins σ (upd H a ob) { s with heap:=h',toks:=t' } :=
 I.write (x:=a) (e:=a) mu (.inl rfl) (fun b q hb z=>(hs.2 b hb).trans z) he new
theorem zNB {P:Program}{w:World}{H':Hp}{h':Heap}{kvs:List (Key × V)}{vs:List (Key × Value)} (z:kvs.length≤sizeLine) (hd:(a == sysModules)=false) (rel:KV kvs vs) (dd:h'.DictOf (zAn P w) a vs) :
  zBL P w H' h' a (.dK kvs):=⟨z,hd,vs,rel,dd⟩
theorem zFq {H':Hp}{Q:Unit→Shared→Prop} (hu:A.units+1<cLine) (I:Inv X pins σ H s) (g:DPut H a y v H') (ry:RelV y u) (rv:RelV v r) (h:∀ s',Inv X pins σ H' s'→Q () s') :
  wpAny (model X.prog X.w) A (setItem (.ref a) u r) Q E s:=by
 rcases g with ⟨kvs,k,e,ey,l,eH⟩ | ⟨kvs,k,b,e,ey,eb,l,eH⟩
 ·subst ey eH
  obtain ⟨z,hd,vs,rel,dd⟩:=zNA I.hok e
  have hz:vs.length≤sizeLine:=by rw [← rel.length]; exact z
  have hl:(putK kvs k v).length≤sizeLine:=by have:=zCE kvs k v; omega
  refine wpAny_setItem_pairs (hsz:=hz) (zJ8 ry) dd fun h' dd' hs=>h _ ?_
  have he:∃ q,h'.get? a=some q:=let ⟨q,_,_,hq,_⟩:=dd'; ⟨q,hq⟩
  exact zFp I (by rw [e]; exact True.intro) hs he (zNB hl hd (rel.put k rv) dd')
 ·subst ey eH
  cases (show u=Value.ref b from ry)
  obtain ⟨z,hd,xs,rel,dd⟩:=zUK I.hok e
  have hz:xs.length≤sizeLine:=by rw [← Paired.length rel]; exact z
  have hl:(putK kvs k v).length≤sizeLine:=by have:=zCE kvs k v; omega
  refine wpAny_setItem_heap (hsz:=hz) (tupleKind_room_in1 hu) (zGh I.hok eb) dd fun h' dd' hs=>h _ ?_
  obtain ⟨q,es,ep,hq,h2,h3,h4,_,h5⟩:=dd'
  refine zFp I (by rw [e]; exact True.intro) hs ⟨q,hq⟩ ⟨hl,hd,_,(rel.put k eb rv).keeps fun c ys ec=>?_,q,es,ep,hq,h2,h3,h4,h5⟩
  rw [zAa (zRx ec e (fun z=>nomatch z))]
  exact ec
end
theorem zJt {X:Cx}{pins:List (Addr × Obj)}{σ:St}{H:Hp}{s:Shared}{a:Addr}{y:V}{o:Option V} (I:Inv X pins σ H s) (g:DGet H a y o):s.TypeIs (.ref a) "dict":=by
 rcases g with ⟨kvs,k,e,_,_⟩ | ⟨kvs,k,b,e,_,_,_⟩
 ·obtain ⟨_,_,vs,_,dd⟩:=zNz I.hok e
  exact dd.typeIs
 ·obtain ⟨_,_,xs,_,dd⟩:=zNx I.hok e
  exact dd.typeIs
theorem zKz {P:Program}{w:World}{H:Hp} (h:Heap) (hb:sysModules<h.objs.size):zBL P w H (h.push { cls:=.type "dict",data:=.dict #[] }) h.objs.size (.dK []) :=
 ⟨qE1 _,beq_eq_false_iff_ne.mpr (Ne.symm (qC7 hb)),[],.nil,Heap.DictOf.new h⟩
noncomputable def zSI:TE:=fun _ H Q=>∀ p,H p=none→Q (.ref p) (upd H p (.dK []))
section
variable {X:Cx}{pos:Pos}
theorem zOV:PE X (.Dict [] [] pos) zSI:=fun pins s σ H Q I h =>
 wpAny_Dict_empty ⟨.ref s.heap.objs.size,_,I.laid (a:=s.heap.objs.size) (o:=.dK []) (t':=s.toks) (fun _ _ q=>qA5 _ q) (qB0 _) (zKz s.heap I.big),rfl,h _ (I.hok.fresh (qB0 _))⟩
end
noncomputable def zM9:List (TE × TE)→St→Hp→(List (V × V)→Hp→Prop)→Prop
 | [],_,H,Q=>Q [] H
 | (tk,tv)::r,σ,H,Q=>tk σ H fun x H1=>tv σ H1 fun y H2=>zM9 r σ H2 fun ps H3=>Q ((x,y)::ps) H3
noncomputable abbrev VV:List (V × V)→List (Value × Value)→Prop:=Paired fun p q=>RelV p.1 q.1∧RelV p.2 q.2
def PPs (X:Cx) (pos:Pos) (keys:List (Option Expr)) (values:List Expr) (trs:List (TE × TE)):Prop :=
 ∀ (pins:List (Addr × Obj)) (s:Shared) (σ:St) (H:Hp) (Q:List (V × V)→Hp→Prop),Inv X pins σ H s→zM9 trs σ H Q →
  wpAny (model X.prog X.w) X.A (evalPairs (pairTrees keys values X.env pos)) (fun vs s'=>∃ ps H',Inv X pins σ H' s'∧VV ps vs∧Q ps H') X.xe s
theorem zRe {X:Cx}{pos:Pos}:PPs X pos [] [] []:=fun pins s σ H Q I h=>pairTrees_nil_walk ⟨[],H,I,.nil,h⟩
theorem zON {X:Cx}{pos:Pos}{k v:Expr}{ks:List (Option Expr)}{vs:List Expr}{tk tv:TE}{trs:List (TE × TE)} (hk:PE X k tk) (hv:PE X v tv) (hr:PPs X pos ks vs trs) :
  PPs X pos (some k::ks) (v::vs) ((tk,tv)::trs):=fun pins s σ H Q I h =>
 pairTrees_cons_walk (thn (hk pins s σ H _ I h) fun u s1 ⟨x,H1,I1,rx,q1⟩=>thn (hv pins s1 σ H1 _ I1 q1) fun w2 s2 ⟨y,H2,I2,ry,q2⟩ =>
  thn (hr pins s2 σ H2 _ I2 q2) fun ws s3 ⟨ps,H3,I3,rel,q3⟩=>⟨(x,y)::ps,H3,I3,.cons ⟨rx,ry⟩ rel,q3⟩)
noncomputable def zF3 (kvs more:List (Key × V)):List (Key × V):=more.foldl (fun acc kv=>putK acc kv.1 kv.2) kvs
theorem KV.merge:∀ {more:List (Key × V)}{rs:List (Key × Value)}{kvs:List (Key × V)}{vs:List (Key × Value)},KV more rs→KV kvs vs→KV (zF3 kvs more) (merged vs rs):=by
 intro more rs kvs vs r
 unfold KV at r
 induction r generalizing kvs vs with
 | nil=>intro q; exact q
 | @cons p q ps qs h t ih =>
  intro r0
  have e:KV (putK kvs p.1 p.2) (stored vs q.1 q.2):=by
   have:=r0.put p.1 h.2
   rw [← h.1]; exact this
  exact ih e
theorem zDS:∀ (more kvs:List (Key × V)),(zF3 kvs more).length≤kvs.length+more.length
 | [],kvs=>by show kvs.length≤kvs.length+0; omega
 | p::r,kvs=>by
  have h1:=zDS r (putK kvs p.1 p.2)
  have h2:=zCE kvs p.1 p.2
  show (zF3 (putK kvs p.1 p.2) r).length≤_
  rw [qD0]; omega
theorem zGs {P:Program}{w:World}:∀ {kvs:List (Key × V)}{ws:List (Value × Value)},VV (kvs.map fun kv=>(kV kv.1,kv.2)) ws→∃ rs,Carries (zAn P w) ws rs∧KV kvs rs
 | [],_,r=>by rw [qI1] at r; cases r; exact ⟨[],True.intro,.nil⟩
 | p::kvs,_,r=>by
  rw [qC1] at r
  cases r with
  | @cons a b as bs h t =>
   obtain ⟨rs,c,q⟩:=zGs (P:=P) (w:=w) t
   obtain ⟨b1,b2⟩:=b
   exact ⟨(p.1,b2)::rs,⟨zJ8 h.1,rfl,c⟩,.cons ⟨rfl,h.2⟩ q⟩
noncomputable def zVX (trs:List (TE × TE)):TE:=fun σ H Q=>∀ p,H p=none→zM9 trs σ (upd H p (.dK [])) fun ps H2=>H2 p=some (.dK [])∧∃ kvs:List (Key × V),ps=kvs.map (fun kv=>(kV kv.1,kv.2))∧kvs.length≤15∧Q (.ref p) (upd H2 p (.dK (zF3 [] kvs)))
theorem zRj {X:Cx}{pos:Pos}{keys:List (Option Expr)}{values:List Expr}{trs:List (TE × TE)} (h:PPs X pos keys values trs) (hall:keys.all (·.isSome)=true) (hl:keys.length=values.length) (h0:keys≠[])
  (h15:keys.length≤15):PE X (.Dict keys values pos) (zVX trs):=by
 intro pins s σ H Q I q
 have hn:=I.hok.fresh (qB0 s.heap.objs.size)
 have I1:=I.laid (a:=s.heap.objs.size) (o:=.dK []) (h':=s.heap.push { cls:=.type "dict",data:=.dict #[] }) (t':=s.toks) (fun _ _ q=>qA5 _ q) (qB0 _) (zKz s.heap I.big)
 refine wpAny_Dict_walk (knd:=zAn X.prog X.w) hall hl h0 h15 (thn (h pins _ σ _ _ I1 (q _ hn)) fun ws s2 ⟨ps,H2,I2,rel,e,kvs,ep,lk,q2⟩=>?_)
 subst ep
 obtain ⟨rs,c,rk⟩:=zGs (P:=X.prog) (w:=X.w) rel
 obtain ⟨z,hd,vs0,r0,dd⟩:=zNA I2.hok e
 cases r0
 refine ⟨rs,c,dd,fun h' dd' hs=>⟨.ref s.heap.objs.size,_,?_,rfl,q2⟩⟩
 have hz:(zF3 [] kvs).length≤sizeLine:=by
  have h1:=zDS kvs []
  rw [qI0] at h1
  rw [sizeLine_eq]; omega
 have he:∃ q,h'.get? s.heap.objs.size=some q:=let ⟨q,_,_,hq,_⟩:=dd'; ⟨q,hq⟩
 exact zFp I2 (by rw [e]; exact True.intro) hs he (zNB hz hd (rk.merge .nil) dd')
def zII (st st2:St):Prop:=st.length=st2.length∧∀ (i:Nat) v,st[i]?=some (some v)→st2[i]?=some (some v)
noncomputable def zBe (X:Cx) (scope:Scope) (N:List Str) (cl:List (Str × Addr)) (s:Shared) (H:Hp) (C:Addr) (ex:List Addr):Cx where
 prog:=X.prog
 w:=X.w
 K:=X.K
 mg:=X.mg
 base:=X.base
 A:=X.A
 N:=N
 s₀:=s
 H₀:=H
 env:=compEnvC scope cl C X.env
 outer:=X.stack
 stack:=X.stack
 ex:=ex
 fn:=fun x=>decide ((x,NameKind.cell)∈scope.names)
 calm:=X.calm
 pn:=[]
 xe:=fun _ _=>False
noncomputable def clOf (env:Env):List (Str × NameKind)→List (Str × Addr)→List (Str × Addr)
 | [],acc=>acc
 | (n,k)::r,acc=>if k == .free then (match env.cells.lookup n with | some c=>clOf env r ((n,c)::acc) | none=>clOf env r acc) else clOf env r acc
theorem zEN {env:Env}:∀ (ns:List (Str × NameKind)) (acc:List (Str × Addr)),(∀ x c,acc.lookup x=some c→env.cells.lookup x=some c)→∀ x c,(clOf env ns acc).lookup x=some c→env.cells.lookup x=some c
 | [],_,h=>h
 | (n,k)::r,acc,h=>by
  unfold clOf
  split
  ·split
   ·rename_i c hc
    refine zEN r _ fun x d e=>?_
    rw [qD1] at e
    cases hx:x == n with
    | true =>
     rw [hx] at e
     have:x=n:=by simpa using hx
     subst this
     cases e
     exact hc
    | false =>
     rw [hx] at e
     exact h x d e
   ·exact zEN r _ h
  ·exact zEN r _ h
theorem zE1 {env:Env}:∀ (ns:List (Str × NameKind)) (acc:List (Str × Addr)) (x:Str),((∃ c,acc.lookup x=some c)∨((x,NameKind.free)∈ns∧∃ c,env.cells.lookup x=some c))→∃ c,(clOf env ns acc).lookup x=some c
 | [],acc,x,h=>by
  rcases h with h | ⟨h,_⟩
  ·exact h
  ·cases h
 | (n,k)::r,acc,x,h=>by
  unfold clOf
  split
  ·rename_i hk
   split
   ·rename_i c hc
    refine zE1 r _ x ?_
    by_cases hx:x=n
    ·subst hx
     exact .inl ⟨c,by rw [qD1]; simp⟩
    ·have hb:(x == n)=false:=by simpa using hx
     rcases h with ⟨d,h⟩ | ⟨h,d⟩
     ·exact .inl ⟨d,by rw [qD1,hb]; exact h⟩
     ·rcases qB9.mp h with h | h
      ·cases h; exact absurd rfl hx
      ·exact .inr ⟨h,d⟩
   ·rename_i hc
    refine zE1 r _ x ?_
    rcases h with h | ⟨h,d,hd⟩
    ·exact .inl h
    ·rcases qB9.mp h with h | h
     ·cases h
      rw [hc] at hd; cases hd
     ·exact .inr ⟨h,d,hd⟩
  ·rename_i hk
   refine zE1 r _ x ?_
   rcases h with h | ⟨h,d⟩
   ·exact .inl h
   ·rcases qB9.mp h with h | h
    ·cases h
     exact absurd rfl hk
    ·exact .inr ⟨h,d⟩
theorem zNT {env:Env}{x:Str}{c:Addr} (h:env.cells.lookup x=some c):cellOf env x=pure c:=by
 unfold cellOf
 rw [h]
theorem zEp {env:Env}:∀ (ns:List (Str × NameKind)) (acc:List (Str × Addr)),(∀ x,(x,NameKind.free)∈ns→∃ c,env.cells.lookup x=some c) →
  (forIn ns acc fun (x:Str × NameKind) (r:List (Str × Addr))=>(match x with
   | (name,kind)=>if kind == NameKind.free then (do let c ← cellOf env name; pure (ForInStep.yield ((name,c)::r))) else pure (ForInStep.yield r):Sem (ForInStep (List (Str × Addr)))))=pure (clOf env ns acc)
 | [],acc,_=>rfl
 | (n,k)::r,acc,h=>by
  rw [qS8]
  unfold clOf
  have hr:∀ x,(x,NameKind.free)∈r→∃ c,env.cells.lookup x=some c:=fun x hx=>h x (qC0 _ hx)
  by_cases hk:k=.free
  ·subst hk
   obtain ⟨c,hc⟩:=h n (qD4 ..)
   dsimp only
   rw [hc,zNT hc]
   simp only [beq_self_eq_true,if_true,pure_bind]
   exact zEp r _ hr
  ·have hb:(k == NameKind.free)=false:=by simpa using hk
   simp only [hb,qD9,if_false,pure_bind]
   exact zEp r _ hr
theorem zE0 {scope:Scope}{env:Env} (h:∀ x,(x,NameKind.free)∈scope.names→∃ c,env.cells.lookup x=some c):closureFor scope env=pure (clOf env scope.names []):=by
 unfold closureFor
 have q:=zEp (env:=env) scope.names [] h
 simp only [bind_pure]
 refine Eq.trans ?_ q
 congr 1
theorem zDx {ns:List (Str × NameKind)}{x:Str}{k:NameKind} (h:ns.lookup x=some k):(x,k)∈ns:=by
 induction ns with
 | nil=>cases h
 | cons a r ih =>
  obtain ⟨n,k'⟩:=a
  rw [qD1] at h
  cases hx:x == n with
  | true =>
   rw [hx] at h
   have e:x=n:=by simpa using hx
   subst e
   cases h
   exact qD4 ..
  | false =>
   rw [hx] at h
   exact qC0 _ (ih h)
theorem zEV {scope:Scope}{env:Env}{x:Str}{k:NameKind} (h:(relabel scope env).names.lookup x=some k) (hc:k=.cell∨k=.free):(x,NameKind.free)∈scope.names∨(x,NameKind.cell)∈scope.names:=by
 have m:=zDx h
 obtain ⟨⟨n,k'⟩,hm,e⟩:=qC8.mp m
 dsimp only at e
 split at e
 ·rename_i hq
  cases e
  have:k'=.free:=by
   simp only [qC9,beq_iff_eq] at hq
   exact hq.1.1
  subst this
  exact .inl hm
 ·cases e
  rcases hc with rfl | rfl
  ·exact .inr hm
  ·exact .inl hm
theorem zBj:∀ (ns:List (Str × NameKind)) (h:Heap) (acc:List (Str × Addr)) {x:Str}{c:Addr},(cellsFrom h.objs.size ns acc).lookup x=some c →
  ((x,NameKind.cell)∈ns∧h.objs.size≤c∧(pushCells h ns).IsCell c none)∨((x,NameKind.cell)∉ns∧acc.lookup x=some c)
 | [],h,acc,x,c,e=>.inr ⟨by simp,e⟩
 | (n,k)::r,h,acc,x,c,e=>by
  unfold cellsFrom at e
  unfold pushCells
  by_cases hk:(k == NameKind.cell)=true
  ·rw [if_pos hk] at e ⊢
   have hk':k=.cell:=by simpa using hk
   rw [← qG2 h { cls:=.type "cell",data:=.cell none }] at e
   rcases zBj r _ _ e with ⟨q1,q2,q3⟩ | ⟨q1,q2⟩
   ·exact .inl ⟨qC0 _ q1,by rw [qG2] at q2; omega,q3⟩
   ·rw [qD1] at q2
    cases hx:x == n with
    | true =>
     rw [hx] at q2
     cases q2
     have:x=n:=by simpa using hx
     subst this
     subst hk'
     exact .inl ⟨qD4 ..,qB0 _,_,pushCells_keeps _ _ _ _ (qB4 _ rfl),rfl⟩
    | false =>
     rw [hx] at q2
     refine .inr ⟨fun z=>?_,q2⟩
     rcases qB9.mp z with z | z
     ·cases z; simp at hx
     ·exact q1 z
  ·rw [if_neg hk] at e ⊢
   rcases zBj r h acc e with ⟨q1,q2,q3⟩ | ⟨q1,q2⟩
   ·exact .inl ⟨qC0 _ q1,q2,q3⟩
   ·refine .inr ⟨fun z=>?_,q2⟩
    rcases qB9.mp z with z | z
    ·cases z; exact hk rfl
    ·exact q1 z
theorem zFu:∀ (ns:List (Str × NameKind)) (n:Nat) (acc:List (Str × Addr)),(∀ x c,acc.lookup x=some c→c<n)→(∀ x y c,acc.lookup x=some c→acc.lookup y=some c→x=y) →
  ∀ x y c,(cellsFrom n ns acc).lookup x=some c→(cellsFrom n ns acc).lookup y=some c→x=y
 | [],n,acc,hb,hi=>hi
 | (m,k)::r,n,acc,hb,hi=>by
  unfold cellsFrom
  split
  ·refine zFu r (n+1) _ (fun x c e=>?_) fun x y c e1 e2=>?_
   ·rw [qD1] at e
    cases hx:x == m with
    | true=>rw [hx] at e; cases e; exact qL7 _
    | false=>rw [hx] at e; exact qG3 (hb x c e)
   ·rw [qD1] at e1 e2
    cases hx:x == m with
    | true =>
     rw [hx] at e1
     cases e1
     cases hy:y == m with
     | true=>rw [show x=m by simpa using hx,show y=m by simpa using hy]
     | false=>rw [hy] at e2; exact absurd (hb y _ e2) (qH4 _)
    | false =>
     rw [hx] at e1
     cases hy:y == m with
     | true=>rw [hy] at e2; cases e2; exact absurd (hb x _ e1) (qH4 _)
     | false=>rw [hy] at e2; exact hi x y c e1 e2
  ·exact zFu r n acc hb hi
theorem zDi:∀ (ns:List (Str × NameKind)) (n:Nat) (acc:List (Str × Addr)) {x:Str},((x,NameKind.cell)∈ns∨∃ c,acc.lookup x=some c)→∃ c,(cellsFrom n ns acc).lookup x=some c
 | [],n,acc,x,h=>by
  rcases h with h | h
  ·cases h
  ·exact h
 | (m,k)::r,n,acc,x,h=>by
  unfold cellsFrom
  split
  ·refine zDi r _ _ ?_
   by_cases hx:x=m
   ·subst hx
    exact .inr ⟨n,by rw [qD1]; simp⟩
   ·have hb:(x == m)=false:=by simpa using hx
    rcases h with h | ⟨c,h⟩
    ·rcases qB9.mp h with h | h
     ·cases h; exact absurd rfl hx
     ·exact .inl h
    ·exact .inr ⟨c,by rw [qD1,hb]; exact h⟩
  ·rename_i hk
   refine zDi r _ _ ?_
   rcases h with h | h
   ·rcases qB9.mp h with h | h
    ·cases h; exact absurd rfl hk
    ·exact .inl h
   ·exact .inr h
theorem zFI {M:Model}{A:Around}{E:Value→Shared→Prop}{s:Shared}{scope:Scope}{globals:Addr}{closure:List (Str × Addr)}{qual:Str}{outer:Env}{Q:Env→Shared→Prop}
  (hQ:Q (newEnv scope s.heap.objs.size globals (cellsFrom (s.heap.push { cls:=.type "dict",data:=.dict #[] }).objs.size scope.names closure) qual none .none (some outer) builtinsNs) { s with heap:=pushCells (s.heap.push { cls:=.type "dict",data:=.dict #[] }) scope.names }) :
  wpAny M A (newFunctionEnv scope globals closure [] qual none .none (some outer)) Q E s:=by
 simp only [newFunctionEnv,qN0,if_true]
 refine wpAny_bind (wpAny_alloc ?_)
 refine wpAny_bind (wpAny_layCells _ (fun name kind cells=>by cases hkc:kind == NameKind.cell <;> simp [hkc]) _ _ _ _ ?_)
 rw [qT4]
 exact wpAny_bind (wpAny_pure (wpAny_pure hQ))
section
variable {X:Cx}{pins:List (Addr × Obj)}{σ:St}{H:Hp}{s:Shared}{scope:Scope}{N:List Str}{C:Addr}{ex:List Addr}
structure zLQ (X:Cx) (scope:Scope) (N:List Str) (k:Nat) (js:List Nat):Prop where
 calm:X.calm=true
 kind:scope.kind=.function
 cell:∀ x,(x,NameKind.cell)∈scope.names→scope.names.lookup x=some .cell
 free:∀ x,(x,NameKind.free)∈scope.names→(X.env.kindOf x=some .cell∨X.env.kindOf x=some .free)
 names:∀ x∈scope.names,x.2=.local→scope.names.lookup x.1=some .local
 len:N.length=k+js.length
 js:∀ i j,js[i]?=some j→∃ x,N[k+i]?=some x∧X.N[j]?=some x∧scope.names.lookup x=some .free∧Vis X.env.scope x
theorem zId {env:Env}{ns:List (Str × NameKind)}{x:Str}{c:Addr} (h:(clOf env ns []).lookup x=some c):env.cells.lookup x=some c:=zEN _ _ (fun _ _ z=>by cases z) x c h
theorem Inv.compOk (I:Inv X pins σ H s) (hk:scope.kind=.function) (hf:∀ x,(x,NameKind.free)∈scope.names→∃ c,X.env.cells.lookup x=some c) {h:Heap} (hh:h.objs.size=C+1) (hC:s.heap.objs.size≤C) (hex:∀ b∈ex,FpOk X pins H b) (hxs:∀ b∈ex,b<s.heap.objs.size) :
  (zBe X scope N (cellsFrom h.objs.size scope.names (clOf X.env scope.names [])) s H C ex).Ok where
 mod:=I.ok.mod
 kind:=hk
 glob:=I.ok.glob
 blt:=I.ok.blt
 above:=hC
 inj:=zFu _ _ _ (fun x c e=>by
  obtain ⟨v,q⟩:=I.cell x c (zId e)
  rw [hh]; exact qG3 (qC3 q.lt hC)) fun x y c e1 e2=>I.ok.inj x y c (zId e1) (zId e2)
 has:=fun x h=>by
  have m:=zEV (scope:=scope) (env:=X.env) (x:=x) (k:=.cell)
  have m2:=zEV (scope:=scope) (env:=X.env) (x:=x) (k:=.free)
  have q:(x,NameKind.free)∈scope.names∨(x,NameKind.cell)∈scope.names:=by
   rcases h with h | h
   ·exact m h (.inl rfl)
   ·exact m2 h (.inr rfl)
  refine zDi _ _ _ ?_
  rcases q with q | q
  ·exact .inr (zE1 _ _ x (.inr ⟨q,hf x q⟩))
  ·exact .inl q
 cab:=fun x c h e=>by
  rcases zBj _ _ _ e with ⟨_,q,_⟩ | ⟨q,_⟩
  ·show s.heap.objs.size≤c; omega
  ·exact absurd (of_decide_eq_true h) q
 hd:=I.ok.hd
 frames:=I.ok.frames
 stk:=.inl rfl
 exf:=fun b hb=>⟨fun z=>by
   have z':b=C:=z
   exact qH4 _ (qC3 (hxs b hb) (by rw [z']; exact hC)),fun x c e=>by
   rcases zBj _ _ _ e with ⟨_,q,_⟩ | ⟨_,q⟩
   ·exact qI9 (qC3 (hxs b hb) (qC5 hC (qG7 (qC3 (by rw [hh]; exact qL7 C) q))))
   ·exact (hex b hb).2.2.2.2.1 x c (zId q)⟩
 bs:=I.bs
 bsz:=qC5 I.ok.bsz I.sz
 noex:=fun b o e hb=>by
  rcases (hex b hb).2.2.2.1 with z | z
  ·exact I.ok.noex b o e z
  ·exact qH4 _ (qC3 (qB6 e) (qC5 I.ok.bsz z))
 exfs:=fun b hb z=>by
  rcases qB9.mp (I.stkSub b z) with q | q
  ·exact (hex b hb).2.1 q
  ·exact (hex b hb).2.2.1 q
 funs:=I.stack
 frf:=I.stkFree
theorem zJu {prog:Program}{w:World}{A:Around}{R:Result→Shared→Prop}{elt target iter:Expr}{ifs:List Expr}{scope:Scope}{pos:Pos}{it acc:Value}{env:Env}{s:Shared} (J:Nat→Shared→Prop)
  (turn:∀ n s,J n s→wpAny (model prog w) A (pyNext it) (fun r s1=>match r with
   | none=>R (.ok .next) s1
   | some v=>wpAny (model prog w) A (letOwnedTupleGo target it v) (fun _ s1'=>wpAny (model prog w) A (assign target env v) (fun _ s2 =>
     wpAny (model prog w) A (forIn ifs true fun c r=>if r=true then do let ok ← isTrue c env (eval c env); pure (ForInStep.yield ok) else pure (ForInStep.yield r)) (fun ok s3 =>
      if ok=true then wpAny (model prog w) A (eval elt env) (fun x s4 =>
       wpAny (model prog w) A (call (.builtin "list.append") [acc,x]) (fun _ s5=>∃ m,m<n∧J m s5) (notedBy (model prog w) A env fun e s'=>R (.error e) s') s4) (notedBy (model prog w) A env fun e s'=>R (.error e) s') s3
      else ∃ m,m<n∧J m s3) (notedBy (model prog w) A env fun e s'=>R (.error e) s') s2) (notedBy (model prog w) A env fun e s'=>R (.error e) s') s1') (notedBy (model prog w) A env fun e s'=>R (.error e) s') s1) (notedBy (model prog w) A env fun e s'=>R (.error e) s') s)
  (n:Nat) (h:J n s) :
  codeAny (model prog w) A (.compLoop (.ListComp elt [⟨target,iter,ifs,0⟩] scope pos) 0 it acc env) R s:=by
 refine codeAny_loop rfl J (fun n s hI=>?_) n h
 show wpAny _ A ((compTurn (.ListComp elt [⟨target,iter,ifs,0⟩] scope pos) 0 it acc env).onRaise (fun x=>do noteFrame x env; theTreesLotGoes x)) _ _ s
 refine wpAny_noted ?_
 rw [compTurn_list]
 refine wpAny_bind (wpAny_standAt (wpAny_bind (wpAny_mono (turn n s hI) (fun r s1 h1=>?_) fun _ _ h'=>h')))
 cases r with
 | none=>exact wpAny_pure h1
 | some v =>
  refine wpAny_bind (wpAny_mono h1 (fun _ s1' h1'=>?_) fun _ _ h'=>h')
  refine wpAny_bind (wpAny_mono h1' (fun _ s2 h2=>wpAny_bind (wpAny_mono h2 (fun ok s3 h3=>?_) fun _ _ h'=>h')) fun _ _ h'=>h')
  cases ok with
  | false=>exact wpAny_pure ⟨rfl,h3⟩
  | true =>
   exact wpAny_bind (wpAny_bind (wpAny_mono h3 (fun x s4 h4=>wpAny_bind (wpAny_mono h4 (fun _ s5 h5=>wpAny_pure (wpAny_pure ⟨rfl,h5⟩)) fun _ _ h'=>h')) fun _ _ h'=>h'))
def PTs (X:Cx) (ifs:List Expr) (t:TT):Prop :=
 ∀ (pins:List (Addr × Obj)) (s:Shared) (σ:St) (H:Hp) (Q:Bool→Hp→Prop),Inv X pins σ H s→t σ H Q →
  wpAny (model X.prog X.w) X.A (forIn ifs true fun c r=>if r=true then do let ok ← isTrue c X.env (eval c X.env); pure (ForInStep.yield ok) else pure (ForInStep.yield r)) (TP X pins σ Q) X.xe s
noncomputable def tYes:TT:=fun _ H Q=>Q true H
theorem zR7 {X:Cx}:PTs X [] tYes:=fun pins s σ H Q I h=>wpAny_tests_nil ⟨H,I,h⟩
theorem zR6 {X:Cx}{c:Expr}{t:TT} (h:PT X c t):PTs X [c] t:=fun pins s σ H Q I hw=>wpAny_tests_one (h pins s σ H Q I hw)
def zSo (J:It) (D:Addr) (W:Nat→Nat→List V→Hp→Prop) (Q:Hp→Prop) (g:TG) (tc:TT) (te:TE) (σ0:St) (i m:Nat) (ys:List V) (H2:Hp):Prop :=
 H2 D=some (.lst ys)∧((J.stop i H2∧Q H2)∨(J.go i H2∧ys.length<sizeLine∧∀ x H3,J.yld i H2 x H3→g x σ0 H3 fun σ4 H4=>zII σ0 σ4∧tc σ4 H4 fun b H5 =>
   if b=true then te σ4 H5 fun y H6=>H6 D=some (.lst ys)∧∃ m',m'<m∧W (i+1) m' (ys++[y]) (upd H6 D (.lst (ys++[y]))) else ∃ m',m'<m∧W (i+1) m' ys H5))
noncomputable def stC (k:Nat) (js:List Nat) (σ:St):St:=qJ8 k Option.none++js.map fun j=>(σ[j]?).getD Option.none
noncomputable def zQz (wi:TI) (k:Nat) (js:List Nat) (g:TG) (tc:TT) (te:TE):TE:=fun σ H Q =>
 wi σ H fun J H1=>∀ D,H1 D=none→∃ W:Nat→Nat→List V→Hp→Prop,(∃ m,W 0 m [] (upd H1 D (.lst [])))∧∀ i m ys H2,W i m ys H2→zSo J D W (Q (.ref D)) g tc te (stC k js σ) i m ys H2
theorem zMd {k:Nat}{js:List Nat}{σ:St}{i:Nat}{v:V} (h:(stC k js σ)[i]?=some (some v)):∃ j,k≤i∧js[i - k]?=some j∧σ[j]?=some (some v):=by
 unfold stC at h
 by_cases hi:i<k
 ·rw [qA7 (by simpa using hi),qI6] at h
  simp [hi] at h
 ·rw [qA0 (by simpa using hi),qH7,qB7] at h
  cases e:js[i - k]? with
  | none=>rw [e] at h; simp at h
  | some j =>
   rw [e] at h
   simp only [qO9,Option.some.injEq] at h
   refine ⟨j,by omega,rfl,?_⟩
   cases q:σ[j]? with
   | none=>rw [q] at h; simp at h
   | some z =>
    rw [q] at h
    simp at h
    rw [h]
theorem zEw {scope:Scope}{env:Env}{x:Str} (h:scope.names.lookup x=some .free):(relabel scope env).names.lookup x=some .cell∨(relabel scope env).names.lookup x=some .free:=by
 unfold relabel
 dsimp only
 generalize scope.names=ns at h
 induction ns with
 | nil=>cases h
 | cons a r ih =>
  obtain ⟨n,k⟩:=a
  rw [qD1] at h
  rw [qC1]
  cases hx:x == n with
  | true =>
   rw [hx] at h
   cases h
   dsimp only
   split
   ·exact .inl (by rw [qD1,hx])
   ·exact .inr (by rw [qD1,hx])
  | false =>
   rw [hx] at h
   dsimp only
   split
   ·rw [qD1,hx]; exact ih h
   ·rw [qD1,hx]; exact ih h
inductive CInv (Y:Cx) (σ0:St) (tn:Nat→Heap→Prop) (fp:List Addr) (W:Nat→Nat→List V→Hp→Prop) (n:Nat) (s:Shared):Prop
 | mk (i:Nat) (ys:List V) (H:Hp) (I:Inv Y [] σ0 H s) (st:tn i s.heap) (fr:∀ b∈fp,H b=none) (w:W i n ys H)
theorem zNM {Y:Cx}{elt iter tg:Expr}{ifs:List Expr}{scope:Scope}{pos:Pos}{g:TG}{tc:TT}{te:TE}{J:It}{fp:List Addr}{it D:Addr}{tn:Nat→Heap→Prop}{σ0:St}{W:Nat→Nat→List V→Hp→Prop}{Q:Hp→Prop}{R:Result→Shared→Prop}
  (hc:Y.calm=true) (hx:Y.xe=fun _ _=>False) (T:Turn Y.prog Y.w Y.K tg J fp it tn) (stat:∀ H',(∀ b∈fp,H' b=none)→∀ b∈fp,FpOk Y [] H' b)
  (hg:PG Y tg g) (htc:PTs Y ifs tc) (hte:PE Y elt te) (turn:∀ i m ys H2,W i m ys H2→zSo J D W Q g tc te σ0 i m ys H2) (fin:∀ H4 s5,Inv Y [] σ0 H4 s5→Q H4→R (.ok .next) s5)
  {s:Shared}{n:Nat} (h0:CInv Y σ0 tn fp W n s) (st3:tn 0 s.heap):codeAny (model Y.prog Y.w) Y.A (.compStart (.ListComp elt [⟨tg,iter,ifs,0⟩] scope pos) 0 (.ref it) (.ref D) Y.env) R s:=by
 have loop:codeAny (model Y.prog Y.w) Y.A (.compLoop (.ListComp elt [⟨tg,iter,ifs,0⟩] scope pos) 0 (.ref it) (.ref D) Y.env) R s:=by
  refine zJu (CInv Y σ0 tn fp W) ?_ n h0
  rintro n s4 ⟨i,ys,H4,I4,st4,fr4,w4⟩
  obtain ⟨hD4,hd⟩:=turn i n ys H4 w4
  rcases hd with ⟨stop,q⟩ | ⟨go,hz,step⟩
  ·refine thn (T.done Y rfl rfl rfl hc i [] s4 _ H4 _ I4 (stat _ fr4) st4 stop) fun r s5 ⟨hr,I5⟩=>?_
   subst hr
   exact fin H4 s5 I5 q
  ·refine thn (T.item Y rfl rfl rfl hc i [] s4 _ H4 _ I4 (stat _ fr4) st4 go) fun r s5 ⟨u,hr,h5⟩=>?_
   subst hr
   refine thn h5 fun _ s6 ⟨x,H6,I6,r6,y6,st6,fr6⟩=>?_
   have I6':=I6.pinned (stat _ fr6) (T.obj _ _ st6)
   have back:∀ {σ7:St}{H7:Hp}{s7:Shared}{m:Nat}{zs:List V},Inv Y ([]++zHK fp s6.heap) σ7 H7 s7→zII σ0 σ7→W (i+1) m zs H7→CInv Y σ0 tn fp W m s7:=fun {σ7 H7 s7 m zs} I7 hw w7=>by
    refine ⟨i+1,zs,H7,I7.unpinned.weak hw.1 hw.2,T.keep _ _ _ st6 fun b hb o e=>(I7.pin (b,o) (qC6 _ (qC6 _ (zCu hb e)))).1,fun b hb=>?_,w7⟩
    obtain ⟨o,e,d⟩:=T.obj _ _ st6 b hb
    exact (I7.pin (b,o) (qC6 _ (qC6 _ (zCu hb e)))).2.1
   have no:∀ {E:Value→Shared→Prop} (e:Value) (s':Shared),Y.xe e s'→E e s':=fun e s' z=>by rw [hx] at z; exact z.elim
   refine wpAny_mono (hg _ s6 _ H6 x u _ I6' r6 (step x H6 y6)) (fun _ s7 ⟨σ7,H7,I7,hw7,q7⟩=>?_) no
   refine wpAny_mono (htc _ s7 σ7 H7 _ I7 q7) (fun b s8 ⟨H8,I8,q8⟩=>?_) no
   cases b with
   | false =>
    obtain ⟨m',hm,w8⟩:=(show ∃ m',m'<n∧W (i+1) m' ys H8 by simpa using q8)
    rw [if_neg (by decide)]
    exact ⟨m',hm,back I8 hw7 w8⟩
   | true =>
    rw [if_pos rfl] at q8
    rw [if_pos rfl]
    refine wpAny_mono (hte _ s8 σ7 H8 _ I8 q8) (fun y s9 ⟨vy,H9,I9,r9,q9⟩=>?_) no
    obtain ⟨hD9,m',hm,w9⟩:=q9
    refine wpAny_mono (zHO (X:=Y) _ s9 σ7 H9 (.ref D) [vy] (.ref D) [y] (fun _ H'=>W (i+1) m' (ys++[vy]) H') I9 rfl (.cons r9 .nil) ⟨_,ys,vy,rfl,rfl,hD9,hz,w9⟩) (fun z s10 ⟨_,H10,I10,_,q10⟩=>?_) no
    exact ⟨m',hm,back I10 hw7 q10⟩
 exact codeAny_compStart_list loop (T.self _ 0 _ _ _ st3 loop)
theorem zLw {elt iter tg:Expr}{ifs:List Expr}{pos:Pos}{k:Nat}{js:List Nat}{J:It}{fp:List Addr}{it:Addr}{tn:Nat→Heap→Prop}{H2:Hp}{s2:Shared}{RR:Value→Addr→Result→Shared→Prop}
  (B:zLQ X scope N k js) (I2:Inv X pins σ H2 s2) (T:Turn X.prog X.w X.K tg J fp it tn) (st2:tn 0 s2.heap) (f2:∀ b∈fp,FpOk X pins H2 b)
  (h:∀ (cl:List (Str × Addr)) (C:Addr) (s4:Shared),s2.heap.objs.size≤C→s2.heap.objs.size≠C→Inv (zBe X scope N cl s2 H2 C fp) [] (stC k js σ) (upd H2 s2.heap.objs.size (.lst [])) s4→tn 0 s4.heap →
   codeAny (model X.prog X.w) X.A (.compStart (.ListComp elt [⟨tg,iter,ifs,0⟩] scope pos) 0 (.ref it) (.ref s2.heap.objs.size) (compEnvC scope cl C X.env)) (RR (.ref s2.heap.objs.size) C) s4) :
  wpAny (model X.prog X.w) X.A (newList []) (fun acc s3=>wpAny (model X.prog X.w) X.A (newFunctionEnv scope X.env.globals (clOf X.env scope.names []) [] X.env.qual none .none (some X.env)) (fun cenv s4 =>
   codeAny (model X.prog X.w) X.A (.compStart (.ListComp elt [⟨tg,iter,ifs,0⟩] scope pos) 0 (.ref it) acc { cenv with scope:=relabel scope X.env }) (RR acc cenv.locals) s4) X.xe s3) X.xe s2:=by
 have hcell:∀ x,(x,NameKind.free)∈scope.names→∃ c,X.env.cells.lookup x=some c:=fun x hx=>I2.ok.has x (B.free x hx)
 refine wpAny_newObj_type (zFI ?_)
 dsimp only
 generalize hP:s2.heap.push { cls:=.type "list",dict:=none,data:=.seq ([]:List Value).toArray }=P
 have hPs:P.objs.size=s2.heap.objs.size+1:=by rw [← hP,qG2]
 have hDC:s2.heap.objs.size≠P.objs.size:=by rw [hPs]; exact qC7 (qL7 _)
 have hCle:s2.heap.objs.size≤P.objs.size:=by rw [hPs]; exact qN6 _
 generalize hP2:P.push { cls:=.type "dict",data:=.dict #[] }=P2
 have hP2s:P2.objs.size=P.objs.size+1:=by rw [← hP2,qG2]
 have hns1:(pushCells P2 scope.names).Ns P.objs.size (fun _=>none):=(hP2▸Heap.Ns.new P (.type "dict")).keeps (pushCells_keeps _ _)
 have old:∀ b o,s2.heap.get? b=some o→(pushCells P2 scope.names).get? b=some o:=fun b o e=>pushCells_keeps _ _ _ _ (hP2▸qA5 _ (hP▸qA5 _ e))
 have hacc:(pushCells P2 scope.names).get? s2.heap.objs.size=some { cls:=.type "list",dict:=none,data:=.seq ([]:List Value).toArray }:=pushCells_keeps _ _ _ _ (hP2▸qA5 _ (hP▸qB4 _ rfl))
 have hfx:∀ b∈fp,b<s2.heap.objs.size:=fun b hb=>by
  obtain ⟨o,e,_⟩:=T.obj _ _ st2 b hb
  exact qB6 e
 have ok:=I2.compOk (N:=N) (C:=P.objs.size) (ex:=fp) B.kind hcell hP2s hCle f2 hfx
 refine h (cellsFrom P2.objs.size scope.names (clOf X.env scope.names [])) P.objs.size _ hCle hDC ?_ (T.keep _ _ _ st2 fun b _ o e=>old b o e)
 refine ⟨ok,rfl,I2.bare,Un.laid old (qB0 _) (I2.hok.fresh (qB0 _)),⟨_,hns1,fun i x v e1 e2 e3=>?_⟩,fun x c e=>?_,?_,fun x c e=>?_,fun p hp=>(by cases hp),I2.hok.laid old (qB0 _) ?_,?_⟩
 ·obtain ⟨j,hki,hj,hv⟩:=zMd e2
  obtain ⟨y,n1,n2,n3,n4⟩:=B.js _ j hj
  have ei:k+(i - k)=i:=by omega
  rw [ei] at n1
  have e1':N[i]?=some x:=e1
  rw [n1] at e1'
  cases e1'
  obtain ⟨m,hn,hl⟩:=I2.loc
  obtain ⟨u,r,lk⟩:=hl j x v n2 hv n4
  refine ⟨u,r,?_⟩
  have mem:=zDx n3
  rcases lk with ⟨kk,_⟩ | ⟨kk,c,ec,ce⟩
  ·rcases B.free x mem with z | z
   ·rw [z] at kk; cases kk
   ·rw [z] at kk; cases kk
  ·obtain ⟨c0,ec0⟩:=zDi scope.names P2.objs.size _ (.inr (zE1 (env:=X.env) scope.names [] x (.inr ⟨mem,c,ec⟩)))
   have hc0:c0=c:=by
    rcases zBj _ _ _ ec0 with ⟨q,_⟩ | ⟨_,q⟩
    ·have:=B.cell x q; rw [n3] at this; cases this
    ·have:=zId q; rw [ec] at this; cases this; rfl
   subst hc0
   refine .inr ⟨zEw n3,c0,ec0,?_⟩
   obtain ⟨o,ho,hd⟩:=ce
   exact ⟨o,old _ _ ho,hd⟩
 ·rcases zBj _ _ _ e with ⟨_,_,q⟩ | ⟨_,q⟩
  ·exact ⟨_,q⟩
  ·obtain ⟨v,o,ho,hd⟩:=I2.cell x c (zId q)
   exact ⟨v,o,old _ _ ho,hd⟩
 ·show upd H2 s2.heap.objs.size (.lst []) P.objs.size=none
  rw [zAa (Ne.symm hDC)]
  exact I2.hok.fresh hCle
 ·rcases zBj _ _ _ e with ⟨_,q,_⟩ | ⟨_,q⟩
  ·have hlt:s2.heap.objs.size<c:=qC3 (by rw [hP2s,hPs]; omega) q
   rw [zAa (qI9 hlt)]
   exact I2.hok.fresh (qG7 hlt)
  ·obtain ⟨v,o,ho,hd⟩:=I2.cell x c (zId q)
   rw [zAa (qC7 (qB6 ho))]
   exact I2.freeC x c (zId q)
 ·exact ⟨qE1 _,[],_,.nil,hacc⟩
 ·unfold stC
  rw [qB2,qH7,qA2]
  exact B.len.symm
theorem zKD {elt iter tg:Expr}{ifs:List Expr}{pos:Pos}{k:Nat}{js:List Nat}{g:TG}{tc:TT}{te:TE}{J:It}{fp:List Addr}{it:Addr}{tn:Nat→Heap→Prop}{H2:Hp}{s2:Shared}{RR:Value→Addr→Result→Shared→Prop}{Q:V→Hp→Prop}
  (B:zLQ X scope N k js) (I2:Inv X pins σ H2 s2) (T:Turn X.prog X.w X.K tg J fp it tn) (st2:tn 0 s2.heap) (f2:∀ b∈fp,FpOk X pins H2 b)
  (hg:∀ cl s H C ex,PG (zBe X scope N cl s H C ex) tg g) (htc:∀ cl s H C ex,PTs (zBe X scope N cl s H C ex) ifs tc) (hte:∀ cl s H C ex,PE (zBe X scope N cl s H C ex) elt te)
  (hW:∀ D,H2 D=none→∃ W:Nat→Nat→List V→Hp→Prop,(∃ m,W 0 m [] (upd H2 D (.lst [])))∧∀ i m ys H2,W i m ys H2→zSo J D W (Q (.ref D)) g tc te (stC k js σ) i m ys H2)
  (fin:∀ cl C H4 s5,s2.heap.objs.size≤C→s2.heap.objs.size≠C→Inv (zBe X scope N cl s2 H2 C fp) [] (stC k js σ) H4 s5→Q (.ref s2.heap.objs.size) H4→RR (.ref s2.heap.objs.size) C (.ok .next) s5) :
  wpAny (model X.prog X.w) X.A (newList []) (fun acc s3=>wpAny (model X.prog X.w) X.A (newFunctionEnv scope X.env.globals (clOf X.env scope.names []) [] X.env.qual none .none (some X.env)) (fun cenv s4 =>
   codeAny (model X.prog X.w) X.A (.compStart (.ListComp elt [⟨tg,iter,ifs,0⟩] scope pos) 0 (.ref it) acc { cenv with scope:=relabel scope X.env }) (RR acc cenv.locals) s4) X.xe s3) X.xe s2:=by
 obtain ⟨W,⟨m0,w0⟩,turn⟩:=hW s2.heap.objs.size (I2.hok.fresh (qB0 _))
 refine zLw B I2 T st2 f2 fun cl C s4 h1 h2 I4 st4=>?_
 refine zNM (Y:=zBe X scope N cl s2 H2 C fp) B.calm rfl T (fun H' hn b hb=>⟨hn b hb,(I4.ok.exf b hb).1,I4.ok.exfs b hb,.inl hb,(I4.ok.exf b hb).2,fun p hp=>by cases hp⟩) (hg _ _ _ _ _) (htc _ _ _ _ _) (hte _ _ _ _ _) turn (fun H4 s5 I5 q=>fin cl C H4 s5 h1 h2 I5 q) (n:=m0) ⟨0,[],_,I4,st4,fun b hb=>?_,w0⟩ st4
 obtain ⟨o,e,_⟩:=T.obj _ _ st2 b hb
 rw [zAa (qC7 (qB6 e))]
 exact (f2 b hb).1
theorem zRk {elt iter tg:Expr}{ifs:List Expr}{pos:Pos}{wi:TI}{g:TG}{tc:TT}{te:TE}{k:Nat}{js:List Nat} (B:zLQ X scope N k js) (hi:PI X tg iter wi)
  (hg:∀ cl s H C ex,PG (zBe X scope N cl s H C ex) tg g) (htc:∀ cl s H C ex,PTs (zBe X scope N cl s H C ex) ifs tc) (hte:∀ cl s H C ex,PE (zBe X scope N cl s H C ex) elt te)
  (hs:∀ x,foldedSetIterable iter X.env x=pure x:=by intro _; rfl):PE X (.ListComp elt [⟨tg,iter,ifs,0⟩] scope pos) (zQz wi k js g tc te):=by
 intro pins s σ H Q I h
 rw [eval_ListComp]
 refine wpAny_comprehension_free (use:=none) rfl hs (zE0 fun x hx=>I.ok.has x (B.free x hx)) B.kind B.names (thn (hi pins s σ H _ I h) fun v s1 h1=>thn h1 fun itv s2 h2=>?_)
 obtain ⟨it,fp,tn,J,H2,e,I2,T,st2,f2,hW⟩:=h2
 subst e
 refine zKD B I2 T st2 f2 hg htc hte hW fun cl C H4 s5 hCle hDC I5 q=>?_
 obtain ⟨m,hn,_⟩:=id I5.loc
 have hC4:H4 C=none:=I5.free
 refine ⟨m,hn,fun h' hs'=>⟨.ref s2.heap.objs.size,H4,?_,rfl,q⟩⟩
 have bl:∀ b o,s2.heap.get? b=some o→b≠C:=fun b o e=>qC7 (qC3 (qB6 e) hCle)
 refine I2.call' (s':={ s5 with heap:=h' }) (ch:=fp) I5.os ?_ (fun b u e=>?_) I5.bare (fun b hb=>⟨(f2 b hb).2.2.2.1,(f2 b hb).2.1,(f2 b hb).2.2.2.2.1,(f2 b hb).2.2.2.2.2⟩)
 ·have U:=I5.base
  exact ⟨fun b o e n hb hx=>(hs'.2 b (bl b o e)).trans (U.keep b o e n hb hx),fun b o e n hb hx=>by
    obtain ⟨sl,z⟩:=U.slot b o e n hb hx
    exact ⟨sl,(hs'.2 b (bl b o e)).trans z⟩,U.free,fun b o e hx=>by
    obtain ⟨o',z⟩:=U.there b o e hx
    exact ⟨o',(hs'.2 b (bl b o e)).trans z⟩,U.tups,U.frzs,U.tbls⟩
 ·refine (I5.hok b u e).stay (fun c w' hcc q'=>(hs'.2 c ?_).trans q') (fun _ q'=>q') fun _ _ q'=>q'
  rintro rfl
  rcases hcc with rfl | hcc
  ·rw [hC4] at e; cases e
  ·rw [hC4] at hcc; cases hcc
end
theorem zGF {H:Hp}{p:Addr} (h:H p=none) (o:HO):Same H (upd H p o):=fun b u q=>by rw [zAa (zAD q h)]; exact q
theorem Same.tup {K:W.Frag}{H H':Hp}{a:Addr}{xs:List V} (e:Same H H') (h:SqT K H a xs):SqT K H' a xs:=by
 rcases h with (h | ⟨o,h⟩) | h
 ·exact .inl (.inl (e _ _ h))
 ·exact .inl (.inr ⟨o,e _ _ h⟩)
 ·exact .inr h
section
variable {X:Cx}{pins:List (Addr × Obj)}{σ:St}{H:Hp}{s:Shared}
theorem Inv.yields {wr:List Addr}{h':Heap}{tk:Nat}{T:Addr}{xs:List V}{its:List Value} (I:Inv X pins σ H s) (hf:∀ b∈wr,FpOk X pins H b) (k:∀ b o,b∉wr→s.heap.get? b=some o→h'.get? b=some o)
  (hT:s.heap.objs.size≤T) (r:Vals xs its) (hz:xs.length≤sizeLine) (ht:IsTup h' T its.toArray):Inv X pins σ (upd H T (.tup xs)) { s with heap:=h',toks:=tk }:=by
 have nT:∀ b o,s.heap.get? b=some o→b≠T:=fun b o e=>qC7 (qC3 (qB6 e) hT)
 have hH:∀ b u,H b=some u→b≠T:=fun b u e=>qC7 (qC3 (I.hok.lt e) hT)
 have nw:∀ b u,H b=some u→b∉wr:=fun b u e hb=>by rw [(hf b hb).1] at e; cases e
 refine I.call' (s':={ s with heap:=h',toks:=tk }) (ch:=wr) rfl ⟨fun b o e n _ hx=>k b o hx e,fun b o e n _ hx=>⟨o.slots,k b o hx e⟩,fun b o e n _=>?_,fun b o e hx=>⟨o,k b o hx e⟩,fun b ys e=>?_,fun b o u e=>?_,fun b ps e=>⟨#[],?_⟩⟩ (fun b u e=>?_) I.bare
  (fun b hb=>⟨(hf b hb).2.2.2.1,(hf b hb).2.1,(hf b hb).2.2.2.2.1,(hf b hb).2.2.2.2.2⟩)
 ·rw [zAa (nT b o e)]; exact n
 ·rw [zAa (hH b _ e)]; exact e
 ·rw [zAa (hH b _ e)]; exact e
 ·rw [zAa (hH b _ e),e]; simp
 ·by_cases hb:b=T
  ·subst hb
   rw [zAb] at e
   cases e
   exact ⟨hz,its,r,ht⟩
  ·rw [zAa hb] at e
   refine (I.hok b u e).stay (fun c v hc q=>k c v ?_ q) (fun c q=>?_) fun c ys q=>?_
   ·rcases hc with rfl | hc
    ·exact nw _ _ e
    ·exact nw _ _ hc
   ·rw [zAa (hH c _ q)]; exact q
   ·rw [zAa (hH c _ q)]; exact q
theorem Inv.turnedL {wr:List Addr}{h':Heap}{tk:Nat} (I:Inv X pins σ H s) (hf:∀ b∈wr,FpOk X pins H b) (k:∀ b o,b∉wr→s.heap.get? b=some o→h'.get? b=some o):Inv X pins σ H { s with heap:=h',toks:=tk }:=by
 have nw:∀ b u,H b=some u→b∉wr:=fun b u e hb=>by rw [(hf b hb).1] at e; cases e
 refine I.call' (s':={ s with heap:=h',toks:=tk }) (ch:=wr) rfl ⟨fun b o e n _ hx=>k b o hx e,fun b o e n _ hx=>⟨o.slots,k b o hx e⟩,fun b o e n _=>n,fun b o e hx=>⟨o,k b o hx e⟩,fun b ys e=>e,fun b o u e=>e,fun b ps e=>⟨#[],by rw [e]; simp⟩⟩ (fun b u e=>?_) I.bare
  (fun b hb=>⟨(hf b hb).2.2.2.1,(hf b hb).2.1,(hf b hb).2.2.2.2.1,(hf b hb).2.2.2.2.2⟩)
 refine (I.hok b u e).stay (fun c v hc q=>k c v ?_ q) (fun c q=>q) fun c ys q=>q
 rcases hc with rfl | hc
 ·exact nw _ _ e
 ·exact nw _ _ hc
end
section
variable {X:Cx}
theorem zJF:zAV X (.type "range") (fun vs H Q=>∃ i j:Int,vs=[.int i,.int j]∧∀ p,H p=none→Q (.ref p) (upd H p (.rng i j))):=by
 intro pins s σ H xs us Q I r h
 obtain ⟨i,j,rfl,q⟩:=h
 obtain ⟨u,v,rfl,ru,rv⟩:=zKM r
 obtain ⟨t,rfl⟩:=ru
 obtain ⟨t',rfl⟩:=rv
 refine call_range_2 ⟨.ref s.heap.objs.size,_,I.laid (o:=.rng i j) (fun b o e=>qA5 _ e) (qB0 _) ?_,rfl,q _ (I.hok.fresh (qB0 _))⟩
 exact ⟨_,_,_,qB4 _ rfl⟩
theorem zJG:zAV X (.type "range") (fun vs H Q=>∃ j:Int,vs=[.int j]∧∀ p,H p=none→Q (.ref p) (upd H p (.rng 0 j))):=by
 intro pins s σ H xs us Q I r h
 obtain ⟨j,rfl,q⟩:=h
 obtain ⟨u,rfl,ru⟩:=zCP r
 obtain ⟨t,rfl⟩:=ru
 refine call_range_1 ⟨.ref s.heap.objs.size,_,I.laid (o:=.rng 0 j) (fun b o e=>qA5 _ e) (qB0 _) ?_,rfl,q _ (I.hok.fresh (qB0 _))⟩
 exact ⟨_,_,_,qB4 _ rfl⟩
noncomputable def upV (lo:Int) (n:Nat):List V:=(List.range n).map fun k=>V.int (lo+(k:Nat))
theorem zQt {lo:Int}{n:Nat}{acc:Array Value} (h:ItemsOf (fun i v=>∃ t,v=.int (lo+i*1) t) acc n):Vals (upV lo n) acc.toList:=by
 obtain ⟨hs,h⟩:=h
 have key:∀ (k:Nat) (us:List Value) (lo:Int),us.length=k→(∀ (i:Nat) (v:Value),us[i]?=some v→∃ t,v=Value.int (lo+(i:Nat)) t)→Vals ((List.range k).map fun j=>V.int (lo+(j:Nat))) us:=by
  intro k
  induction k with
  | zero=>intro us lo hl _; cases us with
   | nil=>exact .nil
   | cons a r=>simp at hl
  | succ k ih =>
   intro us lo hl hh
   cases us with
   | nil=>simp at hl
   | cons a r =>
    rw [qK8,qC1,qF7]
    refine .cons ?_ ?_
    ·obtain ⟨t,e⟩:=hh 0 a rfl
     exact ⟨t,e⟩
    ·have:=ih r (lo+1) (by simpa using hl) fun i v e=>by
      obtain ⟨t,q⟩:=hh (i+1) v (by simpa using e)
      exact ⟨t,by rw [q]; congr 1; omega⟩
     have e:((fun (j:Nat)=>V.int (lo+(j:Nat)))∘Nat.succ)=fun (j:Nat)=>V.int (lo+1+(j:Nat)):=by
      funext j
      simp only [Function.comp]
      congr 1
      omega
     rw [e]
     exact this
 exact key n acc.toList lo (by simpa using hs) fun i v e=>by
  obtain ⟨t,q⟩:=h i v (by simpa using e)
  exact ⟨t,by rw [q,Int.mul_one]⟩
theorem zH5 (hc:X.calm=true):zAV X (.type "list") (fun vs H Q=>∃ p i j,vs=[.ref p]∧H p=some (.rng i j)∧-(2 ^ 62)≤i∧i<2 ^ 62∧-(2 ^ 62)≤j∧j<2 ^ 62∧(j - i).toNat≤1000∧∀ l,H l=none→Q (.ref l) (upd H l (.lst (upV i (j - i).toNat)))):=by
 intro pins s σ H xs us Q I r h
 obtain ⟨p,i,j,rfl,hp,b1,b2,b3,b4,hn,q⟩:=h
 obtain ⟨u,rfl,ru⟩:=zCP r
 cases ru
 obtain ⟨t,u,v,e⟩:=(show zBL X.prog X.w H s.heap p (.rng i j) from I.hok _ _ hp)
 refine call_list_range (n:=(j - i).toNat) (I.ok.hd hc) (show IsRange s.heap p i j 1 t u v from e) (small_one b1 b2 b3 b4) (by rw [rangeSize_one]; split <;> omega) (qC5 hn (by decide)) fun h' tk acc' c' hk he hi=>?_
 have hv:=zQt hi
 refine ⟨.ref s.heap.objs.size,_,I.laid (o:=.lst (upV i (j - i).toNat)) hk (qB0 _) ⟨?_,acc'.toList,c',hv,by simpa using he⟩,rfl,q _ (I.hok.fresh (qB0 _))⟩
 unfold upV
 rw [qA2,qN7]
 exact qC5 hn (by decide)
noncomputable def zR2:V→List V→Hp→VK→Prop:=fun x vs H Q=>∃ (l:Addr) (xs:List V) (i:Nat) (y:V),x=.ref l∧vs=[.int i,y]∧H l=some (.lst xs)∧xs.length<1000∧i≤xs.length∧Q .non (upd H l (.lst (xs.take i++y::xs.drop i)))
theorem zMP:MtM X "list.insert" zR2:=by
 intro pins s σ H x vs v us Q I rx rv h
 obtain ⟨l,xs,i,y,rfl,rfl,hH,hz,hi,q⟩:=h
 cases rx
 obtain ⟨u1,u2,rfl,r1,r2⟩:=rv.two
 obtain ⟨t,rfl⟩:=r1
 obtain ⟨z,its,n,r,hl,e⟩:=I.lstM hH
 generalize hx:((i:Nat):Int)=x
 have hx0:0≤x:=by omega
 have hx1:x.toNat=i:=by omega
 have hfit:¬ (!Builtin.List.listFitsIndex x)=true:=by
  rw [fitsIndex_both (by omega) (by omega)]
  exact qB1
 have hsz:its.toArray.size≤sizeLine:=by rw [qA8,← hl]; exact z
 refine call_meets F.slot_list_insert ⟨_,e,rfl⟩ F.entry_list_insert (F.args_list_insert_3 _ _ _) (PySem.AutoSeq1.list_insert_list_int_val_1 l _ n x t u2 hfit hsz) ⟨e,?_⟩
 refine ⟨.non,_,I.lset (its':=its.take i++u2::its.drop i) hH e ?_ ((r.take i).append (.cons r2 (r.drop i))) ?_,rfl,q⟩
 ·have hk:(if x<0 then (x+((its.toArray.size:Nat):Int)).toNat else min x.toNat its.toArray.size)=i:=by
   rw [if_neg (by omega),qA8]
   omega
  show (its.toArray.extract 0 (if x<0 then (x+((its.toArray.size:Nat):Int)).toNat else min x.toNat its.toArray.size)).push u2++its.toArray.extract (if x<0 then (x+((its.toArray.size:Nat):Int)).toNat else min x.toNat its.toArray.size)=_
  rw [hk]
  apply Array.ext'
  simp
  exact qF1 (by rw [qI7]; exact qB0 _)
 ·rw [qB2,qD0,qH5,qI7]
  have:(1000:Nat)≤sizeLine:=by decide
  omega
theorem zEQ {A:Around}{prog:Program}{w:World}{bs:List Bool}{its:List Value} (r:Vals (bs.map V.bl) its):TruthOf prog w A (fun i v=>its.toArray[i]?=some v) (fun i=>bs.getD i false):=by
 intro i v s Q E hv hq
 have hv':its[i]?=some v:=by simpa using hv
 have hl:i<bs.length:=by
  have h1:=(qA1.mp hv').1
  have h2:=r.length
  rw [qA2] at h2
  omega
 obtain ⟨u,e,ru⟩:=Vals.get r (i:=i) (x:=.bl bs[i]) (by rw [qB7,qA6 hl]; rfl)
 rw [e] at hv'
 cases hv'
 have ru':v=Value.bool bs[i]:=ru
 subst ru'
 have eq:bs.getD i false=bs[i]:=by simp [qT6,hl]
 have hq':Q (bs.getD i false) s:=hq
 rw [eq] at hq'
 exact wpAny_truthy_bool hq'
theorem zHH (bs:List Bool):(List.range bs.length).all (fun i=>bs.getD i false)=bs.all id:=by
 induction bs with
 | nil=>rfl
 | cons b r ih =>
  rw [qD0,qK8,qJ4,qK9,qJ4]
  show (b&&(List.range r.length).all ((fun i=>(b::r).getD i false)∘Nat.succ))=(b&&r.all id)
  rw [← ih]
  rfl
theorem zHG (bs:List Bool):(List.range bs.length).any (fun i=>bs.getD i false)=bs.any id:=by
 induction bs with
 | nil=>rfl
 | cons b r ih =>
  rw [qD0,qK8,qG8,qR2,qG8]
  show (b||(List.range r.length).any ((fun i=>(b::r).getD i false)∘Nat.succ))=(b||r.any id)
  rw [← ih]
  rfl
theorem zO0 (hc:X.calm=true):zAV X (.builtin "all") (fun vs H Q=>∃ (p:Addr) (bs:List Bool),vs=[.ref p]∧SqL X.K H p (bs.map V.bl)∧Q (.bl (bs.all id)) H):=by
 intro pins s σ H xs us Q I r h
 obtain ⟨p,bs,rfl,hq,q⟩:=h
 obtain ⟨u,rfl,ru⟩:=zCP r
 cases ru
 obtain ⟨its,rv,pl,hz⟩:=I.list hq
 have hlt:p<s.heap.objs.size:=by obtain ⟨_,e,_⟩:=pl.isList; exact qB6 e
 have hlen:=rv.length
 rw [qA2] at hlen
 refine call_all_walk (wpAny_pyIter_list pl.isList ?_)
 refine ⟨s.heap.objs.size,_,[s.heap.objs.size],_,_,_,_,rfl,Walks.list (A:=X.A.in1) (show X.A.in1.handled=none from I.ok.hd hc) s.heap.objs.size p (qC7 hlt) its.toArray,⟨⟨_,qB4 _ rfl,rfl,rfl⟩,pl.isList.push _⟩,zEQ rv,fun h' tk kk=>?_⟩
 have e:(List.range its.toArray.size).all (fun i=>bs.getD i false)=bs.all id:=by rw [qA8,← hlen]; exact zHH bs
 rw [e]
 refine ⟨.bl (bs.all id),H,?_,rfl,q⟩
 exact I.kept (t':=tk) fun b o eb=>kk b o (by simp only [qA9]; exact qC7 (qB6 eb)) (qA5 _ eb)
theorem zNY (hc:X.calm=true):zAV X (.builtin "any") (fun vs H Q=>∃ (p:Addr) (bs:List Bool),vs=[.ref p]∧SqL X.K H p (bs.map V.bl)∧Q (.bl (bs.any id)) H):=by
 intro pins s σ H xs us Q I r h
 obtain ⟨p,bs,rfl,hq,q⟩:=h
 obtain ⟨u,rfl,ru⟩:=zCP r
 cases ru
 obtain ⟨its,rv,pl,hz⟩:=I.list hq
 have hlt:p<s.heap.objs.size:=by obtain ⟨_,e,_⟩:=pl.isList; exact qB6 e
 have hlen:=rv.length
 rw [qA2] at hlen
 refine call_any_walk (wpAny_pyIter_list pl.isList ?_)
 refine ⟨s.heap.objs.size,_,[s.heap.objs.size],_,_,_,_,rfl,Walks.list (A:=X.A.in1) (show X.A.in1.handled=none from I.ok.hd hc) s.heap.objs.size p (qC7 hlt) its.toArray,⟨⟨_,qB4 _ rfl,rfl,rfl⟩,pl.isList.push _⟩,zEQ rv,fun h' tk kk=>?_⟩
 have e:(List.range its.toArray.size).any (fun i=>bs.getD i false)=bs.any id:=by rw [qA8,← hlen]; exact zHG bs
 rw [e]
 refine ⟨.bl (bs.any id),H,?_,rfl,q⟩
 exact I.kept (t':=tk) fun b o eb=>kk b o (by simp only [qA9]; exact qC7 (qB6 eb)) (qA5 _ eb)
theorem zP2:OpR X (compareOp .Is) (fun x y H Q=>∃ a b,x=.bl a∧y=.bl b∧Q (.bl (a == b)) H):=by
 intro pins s σ H x y v u Q I rx ry h
 obtain ⟨a,b,rfl,rfl,q⟩:=h
 cases rx
 cases ry
 exact is_bool ⟨.bl (a == b),H,I,rfl,q⟩
theorem zJ0:OpR X (compareOp .IsNot) (fun x y H Q=>∃ a b,x=.bl a∧y=.bl b∧Q (.bl (a != b)) H):=by
 intro pins s σ H x y v u Q I rx ry h
 obtain ⟨a,b,rfl,rfl,q⟩:=h
 cases rx
 cases ry
 exact isnot_bool ⟨.bl (a != b),H,I,rfl,q⟩
end
section
variable {X:Cx}
noncomputable def zTi (K:W.Frag):R2:=fun x y H Q=>∃ a b xs ys,x=.ref a∧y=.ref b∧H a=some (.tup xs)∧H b=some (.tup ys)∧xs.length+ys.length≤sizeLine∧∀ p H1,Same H H1→H1 p=some (.tup (xs++ys))→Q (.ref p) H1
theorem zP3:OpR X (binaryOp .Add) (zTi X.K):=by
 intro pins s σ H x y v u Q I rx ry h
 obtain ⟨a,b,xs,ys,rfl,rfl,ha,hb,hz,q⟩:=h
 by_cases hx:xs=[]
 ·subst hx
  cases rx
  cases ry
  obtain ⟨its,r1,p1,_⟩:=I.tuple (SqT.of ha)
  obtain ⟨its2,r2,p2,_⟩:=I.tuple (SqT.of hb)
  have e:its=[]:=(r1.nil_iff).mpr rfl
  subst e
  obtain ⟨⟨cls,dd,data,sl⟩,ho,hc,n,hd⟩:=id p1
  obtain ⟨⟨cls2,dd2,data2,sl2⟩,ho2,hc2,n2,hd2⟩:=id p2
  simp only at hc hd hc2 hd2
  subst hc hd hc2 hd2
  exact concat_meets ⟨_,ho,rfl⟩ ⟨_,ho2,rfl⟩ noFill_tuple_add seq_tuple_add PySem.F.slot_tuple_add PySem.F.entry_tuple_add (PySem.F.args_tuple_add_2 _ _)
   (tuple_addW0 a b ([]:List Value).toArray its2.toArray n n2 dd dd2 sl sl2 (by simp)) ⟨ho,ho2,⟨.ref b,H,I,rfl,q b H (Same.refl H) hb⟩⟩
 ·refine zRq pins s σ H (.ref a) (.ref b) v u Q I rx ry ⟨a,b,xs,ys,rfl,rfl,SqT.of ha,SqT.of hb,hx,hz,fun e=>?_,fun _ p hp=>q p _ (zGF hp _) zAb⟩
  subst e
  exact q a H (Same.refl H) (by rw [qH9]; exact ha)
theorem zLu (xs:List V) (lo hi:Option Int) (h:HT.sIx xs.length 0 lo=0∧HT.sIx xs.length xs.length hi=xs.length):cutV xs lo hi=xs:=by
 unfold cutV
 rw [h.1,h.2,qP5,Nat.sub_zero,qL8]
theorem zDC {prog:Program}{w:World}{A:Around}{E:Value→Shared→Prop}{s:Shared}{t sl:Addr}{items:Array Value}{vl vu:Value}{lo hi:Option Int}{Q:Value→Shared→Prop} (ht:IsTup s.heap t items) (hs:s.heap.IsSliceOf sl vl vu .none) (pl:IsPart vl lo) (pu:IsPart vu hi)
  (hw:HT.sIx items.size 0 lo=0∧HT.sIx items.size items.size hi=items.size)
  (h:Q (.ref t) s):wpAny (model prog w) A (getItem (.ref t) (.ref sl)) Q E s:=by
 obtain ⟨os,hos,hcs,hds⟩:=id hs
 have hTs:s.TypeIs (.ref sl) "slice":=⟨os,hos,hcs⟩
 unfold getItem
 try with_reducible refine wpAny_holding ?_
 first | refine wpAny_bind (wpAny_pure ?_) | skip
 refine wpAny_bind (wpAny_sequenceKey ht.typeIs (by decide) ?_)
 refine wpAny_bind (wpAny_callSpecial?_slot (name:=Str.ofString "__getitem__") ht.typeIs PyProof.Rows.slot_tuple_getitem
  (wpAny_call_entry PyProof.Rows.slot_tuple_getitem ht.typeIs entry_tuple_getitem ?_ (args_tuple_getitem _ _)))
 show wpAny _ _ (Builtin.Tuple.tupleItemsOf (.ref t) >>= _) _ _ s
 refine wpAny_bind (tupleItemsOf_ ht ?_)
 refine wpAny_bind (wpAny_typeOf hTs ?_)
 rw [if_pos (by decide)]
 refine wpAny_bind (HT.sliceApplied_gen hs pl pu ?_)
 have hyes:(((HT.sIx items.size 0 lo:Nat):Int) == 0&&(1:Int) == 1&&(HT.sIx items.size items.size hi - HT.sIx items.size 0 lo) == items.size)=true:=by
  rw [hw.1,hw.2]
  simp
 show wpAny _ _ (if (((HT.sIx items.size 0 lo:Nat):Int) == 0&&(1:Int) == 1&&(HT.sIx items.size items.size hi - HT.sIx items.size 0 lo) == items.size)=true then _ else _) _ _ s
 rw [if_pos hyes]
 have hEx:Builtin.Tuple.tupleIsExact (Value.ref t)=(typeOf (Value.ref t) >>= fun c=>pure (c == .type "tuple")):=rfl
 rw [hEx]
 refine wpAny_bind (wpAny_bind (wpAny_typeOf ht.typeIs (wpAny_pure ?_)))
 rw [if_pos (by decide)]
 exact wpAny_bind (wpAny_rule (wpAny_pure ⟨_,rfl,wpAny_pure h⟩))
noncomputable def zWe (K:W.Frag):V→Option Int→Option Int→Hp→VK→Prop:=fun x lo hi H Q=>∃ a xs,x=.ref a∧H a=some (.tup xs)∧∀ p H1,Same H H1→H1 p=some (.tup (cutV xs lo hi))→Q (.ref p) H1
theorem zQJ:SlR X (zWe X.K):=by
 intro pins s σ H x v vl vu lo hi sl Q I rx hs pl pu h
 obtain ⟨a,xs,rfl,hx,q⟩:=h
 by_cases hw:HT.sIx xs.length 0 lo=0∧HT.sIx xs.length xs.length hi=xs.length
 ·cases rx
  obtain ⟨its,r,ht,hz⟩:=I.tuple (SqT.of hx)
  have hlen:its.toArray.size=xs.length:=by rw [qA8]; exact r.length.symm
  refine ⟨"tuple",_,PyProof.Rows.slot_tuple_getitem.lookup,ht.typeIs,?_⟩
  exact zDC ht hs pl pu (by rw [hlen]; exact hw) ⟨.ref a,H,I,rfl,q a H (Same.refl H) (by rw [zLu xs lo hi hw]; exact hx)⟩
 ·exact zSV pins s σ H (.ref a) v vl vu lo hi sl Q I rx hs pl pu ⟨a,xs,rfl,SqT.of hx,hw,fun p hp=>q p _ (zGF hp _) zAb⟩
end
structure zGy (P:Program) (w:World) (K:W.Frag) (mg:Str→Option Value) (base:Heap) (x:Str) (ps:List Str) (k:Nat) (sp:Sp):Prop where
 ex:∃ f fd,FnOk P w K mg base CX0 k f fd ps sp∧zHk K fd ps []∧W.keepIn K (.ref f)=true∧mg x=some (.ref f)
section
variable {X:Cx}{a b c d:Expr}{ta tb tc td:TE}{pos:Pos}
theorem zOX {x:Str}{ps:List Str}{k k':Nat}{sp:Sp}{e:Expr}{es:List Expr}{t:TA}{p:Pos} (C:zGy X.prog X.w X.K X.mg X.base x ps k sp) (hr:Room k' X.A) (hg:Gl X x) (ha:PA X (e::es) t) (hk:k≤k':=by decide) (hdb:(x == ("__debug__":Str))=false:=by decide)
  (h1:starEach (e::es) X.env=(false,eval e X.env)::starEach es X.env:=by rfl) (h2:(backTo pos (starEach es X.env)).any (·.1)=false:=by rfl) :
  PE X (.Call (.Name x p) (e::es) [] pos) (zQA sp [] E0 t):=by
 obtain ⟨f,fd,F,hb,hkp,hm⟩:=C.ex
 exact zRm (hdb:=hdb) (he:=h1) (hpl:=h2) F (hr.mono hk) hg hm hkp hb .nil zWq ha
end
def TK (K:W.Frag) (H H':Hp):Prop:=∀ p xs,SqT K H p xs→SqT K H' p xs
theorem TK.refl (K:W.Frag) (H:Hp):TK K H H:=fun _ _ h=>h
theorem TK.trans {K:W.Frag}{H H1 H2:Hp} (a:TK K H H1) (b:TK K H1 H2):TK K H H2:=fun p xs h=>b p xs (a p xs h)
theorem dT {p:Prop} [Decidable p] (h:p):decide p=true:=decide_eq_true h
theorem zV2:bootBuiltins "len"=some (.builtin "len"):=by decide +kernel
theorem zPJ:bootBuiltins "range"=some (.type "range"):=by decide +kernel
theorem zJK:bootBuiltins "list"=some (.type "list"):=by decide +kernel
theorem zKI:bootBuiltins "tuple"=some (.type "tuple"):=by decide +kernel
theorem zV0:bootBuiltins "min"=some (.builtin "min"):=by decide +kernel
theorem zV1:bootBuiltins "max"=some (.builtin "max"):=by decide +kernel
theorem zUY:bootBuiltins "zip"=some (.type "zip"):=by decide +kernel
theorem zH8:bootBuiltins "isinstance"=some (.builtin "isinstance"):=by decide +kernel
theorem zV4:bootBuiltins "all"=some (.builtin "all"):=by decide +kernel
theorem zV3:bootBuiltins "any"=some (.builtin "any"):=by decide +kernel
theorem zQk:bootBuiltins "int"=some (.type "int"):=by decide +kernel
theorem zSi:bootBuiltins "bool"=some (.type "bool"):=by decide +kernel
theorem zIv:bootBuiltins "enumerate"=some (.type "enumerate"):=by decide +kernel
theorem zUZ:bootBuiltins "str"=some (.type "str"):=by decide +kernel
structure C4 where
 a:Int
 b:Int
 k:Int
 o:Int
def C4.ok (sw pl:Int) (c:C4):Prop:=0≤c.a∧c.a<c.b∧c.b<pl∧0≤c.k∧c.k<sw∧0≤c.o∧c.o<2
structure zVd (ms mp mc:Int) (sw pl:Int) (cs:List C4):Prop where
 s1:1≤sw
 s2:sw≤ms
 p1:2≤pl
 p2:pl≤mp
 c1:(cs.length:Int)≤mc
 c2:∀ c∈cs,c.ok sw pl
inductive Ty2 (K:W.Frag) (H:Hp):V→String→Prop where
 | non:Ty2 K H .non "NoneType"
 | bl (x:Bool):Ty2 K H (.bl x) "bool"
 | int (i:Int):Ty2 K H (.int i) "int"
 | str (x:Str):Ty2 K H (.str x) "str"
 | tup {a:Addr}{xs:List V} (e:SqT K H a xs):Ty2 K H (.ref a) "tuple"
 | lst {a:Addr}{xs:List V} (e:SqL K H a xs):Ty2 K H (.ref a) "list"
 | dk {a:Addr}{kvs:List (Key × V)} (e:H a=some (.dK kvs)):Ty2 K H (.ref a) "dict"
noncomputable def kOf (t T:String):Bool:=t == T||(t == "bool"&&T == "int")
section
variable {X:Cx}
theorem zLa {A:Around}{E:Value→Shared→Prop}{pins:List (Addr × Obj)}{σ:St}{H:Hp}{s:Shared}{Q:Value→Shared→Prop}{c:Value}{b:Bool}{x:V}{u:Value}{t:String} (I:Inv X pins σ H s) (rx:RelV x u) (ty:Ty2 X.K H x t) (e:W.kitOne X.K (.type t) c=some b) (h:∀ tk,Q (.bool b) { s with toks:=tk }) :
  wpAny (model X.prog X.w) A (call (.builtin "isinstance") [u,c]) Q E s:=by
 cases ty with
 | non=>cases (show u=Value.none from rx); exact W.kia_one W.kitx_none I.kIn True.intro e (fun z=>nomatch z) h
 | bl y=>cases (show u=Value.bool y from rx); exact W.kia_one W.kitx_bool I.kIn True.intro e (fun z=>nomatch z) h
 | int i=>obtain ⟨t,q⟩:=(show ∃ t,u=Value.int i t from rx); cases q; exact W.kia_one W.kitx_int I.kIn True.intro e (fun z=>nomatch z) h
 | str y=>obtain ⟨t,q⟩:=(show ∃ t,u=Value.str y t from rx); cases q; exact W.kia_one W.kitx_str I.kIn True.intro e (fun z=>nomatch z) h
 | @lst a xs ea =>
  cases (show u=Value.ref a from rx)
  obtain ⟨its,_,pl,_⟩:=I.list ea
  obtain ⟨o,h1,h2,_⟩:=pl.isList
  exact W.kia_one W.kitx_list I.kIn ⟨o,h1,h2⟩ e (fun z=>nomatch z) h
 | @tup a xs ea =>
  cases (show u=Value.ref a from rx)
  obtain ⟨its,_,pl,_⟩:=I.tuple ea
  obtain ⟨o,h1,h2,_⟩:=pl
  exact W.kia_one W.kitx_tuple I.kIn ⟨o,h1,h2⟩ e (fun z=>nomatch z) h
 | @dk a kvs ea =>
  cases (show u=Value.ref a from rx)
  obtain ⟨_,_,vs,_,p⟩:=(show zBL X.prog X.w H s.heap a (.dK kvs) from I.hok a _ ea)
  obtain ⟨o,es,ep,h1,h2,_⟩:=p
  exact W.kia_one W.kitx_dict I.kIn ⟨o,h1,h2.1⟩ e (fun z=>nomatch z) h
theorem zIr:zAV X (.builtin "isinstance") (fun vs H Q=>∃ x t T b,vs=[x,.ty T]∧Ty2 X.K H x t∧W.kitOne X.K (.type t) (.type T)=some b∧Q (.bl b) H):=by
 intro pins s σ H xs us Q I r h
 obtain ⟨x,t,T,b,rfl,ty,e,q⟩:=h
 obtain ⟨u,v,rfl,ru,rv⟩:=zKM r
 cases rv
 exact zLa I ru ty e fun tk=>⟨.bl b,H,I.tok tk,rfl,q⟩
end
theorem zPg (K:W.Frag):(∀ t∈["NoneType","bool","int","str","tuple","list","dict"],∀ T∈["bool","int","tuple","list","str","dict"],W.kitOne K (.type t) (.type T)=some (kOf t T)):=by
 intro t ht T hT
 simp only [qB9,qJ9,or_false] at ht hT
 rcases ht with rfl | rfl | rfl | rfl | rfl | rfl | rfl <;> rcases hT with rfl | rfl | rfl | rfl | rfl | rfl <;> rfl
mutual
inductive Rp (K:W.Frag) (H:Hp) (a0:Addr→Prop):V→PyData→Prop where
 | non:Rp K H a0 .non .none
 | bl (b:Bool):Rp K H a0 (.bl b) (.bool b)
 | int (i:Int):Rp K H a0 (.int i) (.int i)
 | str (x:Str):Rp K H a0 (.str x) (.str x)
 | tup {p:Addr}{xs:List V}{ds:List PyData} (h:SqT K H p xs) (r:RpL K H a0 xs ds):Rp K H a0 (.ref p) (.tuple ds)
 | lst {p:Addr}{xs:List V}{ds:List PyData} (n:a0 p) (h:SqL K H p xs) (r:RpL K H a0 xs ds):Rp K H a0 (.ref p) (.list ds)
inductive RpL (K:W.Frag) (H:Hp) (a0:Addr→Prop):List V→List PyData→Prop where
 | nil:RpL K H a0 [] []
 | cons {x:V}{xs:List V}{d:PyData}{ds:List PyData} (h:Rp K H a0 x d) (t:RpL K H a0 xs ds):RpL K H a0 (x::xs) (d::ds)
end
noncomputable def C4.d (c:C4):PyData:=.tuple [.int c.a,.int c.b,.int c.k,.int c.o]
open PySem PySem.Spec PyProof.Rows
section
variable {prog:Program}{w:World}{A:Around}{E:Value→Shared→Prop}{s:Shared}
theorem zHr {j t:Addr}{n:Nat}{vs:Array Value}{v:Value}{Q:Value→Shared→Prop} (hj:s.heap.IsTupleIter j t n) (ht:s.heap.IsTuple t vs) (hv:vs[n]?=some v)
  (q:∀ h',h'.IsTupleIter j t (n+1)→qE2 j s.heap h'→Q v { s with heap:=h' }):wpAny (model prog w) A (Builtin.SmallTypes.nextOf (.ref j)) Q E s:=by
 obtain ⟨oj,e1,c1,d1⟩:=id hj
 obtain ⟨ot,e2,_,m,d2⟩:=ht
 unfold Builtin.SmallTypes.nextOf
 refine wpAny_bind (wpAny_callSpecial?_slot (name:=Str.ofString "__next__") hj.typeIs F.slot_tuple_iterator_next (wpAny_call_entry F.slot_tuple_iterator_next hj.typeIs F.entry_tuple_iterator_next ?_ (F.args_tuple_iterator_next_1 _)))
 show wpAny _ _ (field (.ref j) 0 >>= _) _ _ s
 refine wpAny_bind (wpAny_field e1 d1 (x:=.ref t) rfl ?_)
 show wpAny _ _ (if (Value.ref t == Value.none)=true then _ else _) _ _ s
 rw [if_neg (show ¬ ((Value.ref t == Value.none)=true) from fun z=>qB1 z)]
 show wpAny _ _ (field (.ref j) 1 >>= _) _ _ s
 refine wpAny_bind (wpAny_field e1 d1 (x:=.int n 0) rfl ?_)
 show wpAny _ _ (seqItems? (.ref t) >>= _) _ _ s
 refine wpAny_bind (wpAny_seqItems e2 d2 ?_)
 simp only [hv,qJ6]
 refine wpAny_bind (wpAny_setField e1 d1 (by simp) (wpAny_pure ⟨v,rfl,wpAny_pure (q _ ?_ (qE2.update ..))⟩))
 refine ⟨_,qH8 _ e1 (Obj.isFreed_of_fields (Obj.data_mapFields d1 _)),(Obj.cls_mapFields ..).trans c1,?_⟩
 rw [Obj.data_mapFields d1]
 simp [rawInt]
theorem zIS {j t:Addr}{n:Nat}{vs:Array Value}{Q:Value→Shared→Prop} (hh:A.handled=none) (hj:s.heap.IsTupleIter j t n) (ht:s.heap.IsTuple t vs) (hv:vs[n]?=none)
  (q:∀ h' e,Heap.ExtBut j s.heap h'→(∃ o,h'.get? e=some o∧o.cls=.type "StopIteration")→E (.ref e) { s with heap:=h' }):wpAny (model prog w) A (Builtin.SmallTypes.nextOf (.ref j)) Q E s:=by
 obtain ⟨oj,e1,c1,d1⟩:=id hj
 obtain ⟨ot,e2,_,m,d2⟩:=ht
 unfold Builtin.SmallTypes.nextOf
 refine wpAny_bind (wpAny_callSpecial?_slot (name:=Str.ofString "__next__") hj.typeIs F.slot_tuple_iterator_next (wpAny_call_entry F.slot_tuple_iterator_next hj.typeIs F.entry_tuple_iterator_next ?_ (F.args_tuple_iterator_next_1 _)))
 show wpAny _ _ (field (.ref j) 0 >>= _) _ _ s
 refine wpAny_bind (wpAny_field e1 d1 (x:=.ref t) rfl ?_)
 show wpAny _ _ (if (Value.ref t == Value.none)=true then _ else _) _ _ s
 rw [if_neg (show ¬ ((Value.ref t == Value.none)=true) from fun z=>qB1 z)]
 show wpAny _ _ (field (.ref j) 1 >>= _) _ _ s
 refine wpAny_bind (wpAny_field e1 d1 (x:=.int n 0) rfl ?_)
 show wpAny _ _ (seqItems? (.ref t) >>= _) _ _ s
 refine wpAny_bind (wpAny_seqItems e2 d2 ?_)
 simp only [hv,qJ6]
 refine wpAny_bind (wpAny_rule (wpAny_bind (wpAny_setField e1 d1 (by simp) ?_)))
 refine wpAny_bind (m:=newExc (.type "StopIteration") []) ?_
 simp only [newTuple,newExc]
 refine wpAny_bind (wpAny_newObj_type ?_ (by size_fits))
 refine wpAny_bind (m:=firstArgMember _ _) (wpAny_of_eq (a:=Value.none) (by first | (simp only [firstArgMember]; rfl) | rfl) ?_)
 refine wpAny_newObj_type ?_ (by size_fits)
 simp only [raiseNew]
 refine wpAny_bind (wpAny_handled ?_)
 first | rw [hh] | rw [show A.in1.handled=none from hh]
 refine wpAny_bind (wpAny_pure (wpAny_throw ?_))
 exact q _ _ (((qE2.update ..).extBut.push _).push _) ⟨_,qB4 _ rfl,rfl⟩
end
theorem zLt {prog:Program}{w:World}{A:Around} (hh:A.handled=none) (j t:Addr) (hne:t≠j) (vs:Array Value) :
  Draws prog w A j [j,t] vs.size (fun i v=>vs[i]?=some v) (fun i h=>h.IsTupleIter j t i∧h.IsTuple t vs) where
 live:=fun _ _ st=>let ⟨o,ho,_⟩:=st.1; ⟨o,ho⟩
 frame:=fun _ _ _ st kk=>⟨st.1.at fun o e=>kk j (by simp) o e,let ⟨o,ho,r⟩:=st.2; ⟨o,kk t (by simp) o ho,r⟩⟩
 item:=fun i s Q E hi st hQ=>zHr st.1 st.2 (v:=vs[i]) (by simp [hi]) fun h' h1 h2=>hQ _ h' s.toks (by simp [hi]) ⟨h1,st.2.extBut h2.extBut hne⟩ h2
 done:=fun s Q E st hE=>zIS hh st.1 st.2 (by simp) hE
theorem zPD (l:Addr) (items:Array Value) (n:Nat) (dct:Option Addr) (sl:Array (Option Value)) :
  Meets (Builtin.«enumerate.__new__» ⟨[.type "enumerate",.ref l],[]⟩) (fun _ R s=>s.heap.get? l=some { cls:=.type "tuple",dict:=dct,data:=.seq items n,slots:=sl } ∧
   R (.ok (.ret (.ref (s.heap.push { cls:=.type "tuple_iterator",data:=.fields #[.ref l,.int 0 0] }).objs.size)))
    { s with heap:=(s.heap.push { cls:=.type "tuple_iterator",data:=.fields #[.ref l,.int 0 0] }).push { cls:=.type "enumerate",data:=.fields #[.none,.bool false,.ref s.heap.objs.size,rawInt 0,.none,.none] } }) :=
 .of_wp fun prog w A R s h=>by
  obtain ⟨hp,g,d,tk,os⟩:=s; obtain ⟨hl,h⟩:=h
  have hsub:=sub_enumerate
  have hT:qK0 (Shared.heap ⟨hp,g,d,tk,os⟩) l items:=⟨_,hl,rfl,n,rfl⟩
  wp_walk using AutoSeq1.wpAny_loadPart' hl
  refine wpAny_stack_any fun st=>wpAny_pure ?_
  split
  ·rename_i c _ _ _ _ _
   cases (c == Value.type "enumerate") <;> (wp_walk using AutoSeq1.wpAny_loadPart' hl,wpAny_pyIter_tuple hT; exact ⟨_,rfl,h⟩)
  ·wp_walk using AutoSeq1.wpAny_loadPart' hl,wpAny_pyIter_tuple hT
   exact ⟨_,rfl,h⟩
open PySem PySem.Spec PyProof.Rows
section
variable {X:Cx}{pins:List (Addr × Obj)}{σ:St}{H:Hp}{s:Shared}
mutual
theorem Inv.reads (I:Inv X pins σ H s) {a0:Addr→Prop}:∀ {x:V}{d:PyData}{u:Value},Rp X.K H a0 x d→RelV x u→∃ as,Reads s.heap u d as
 | _,_,u,.non,r=>by cases (show u=Value.none from r); exact ⟨_,.none⟩
 | _,_,u,.bl b,r=>by cases (show u=Value.bool b from r); exact ⟨_,.bool b⟩
 | _,_,u,.int i,r=>by obtain ⟨t,q⟩:=(show ∃ t,u=Value.int i t from r); cases q; exact ⟨_,.int i t⟩
 | _,_,u,.str y,r=>by obtain ⟨t,q⟩:=(show ∃ t,u=Value.str y t from r); cases q; exact ⟨_,.str y t⟩
 | _,_,u,.tup (p:=p) h rr,r=>by
  cases (show u=Value.ref p from r)
  obtain ⟨its,rv,⟨o,h1,h2,n,h3⟩,_⟩:=I.tuple h
  obtain ⟨as,ra⟩:=I.readsL rr rv
  exact ⟨_,.tuple h1 h2 h3 (by simpa using ra)⟩
 | _,_,u,.lst (p:=p) _ h rr,r=>by
  cases (show u=Value.ref p from r)
  obtain ⟨its,rv,pl,_⟩:=I.list h
  obtain ⟨o,h1,h2,n,h3⟩:=pl.isList
  obtain ⟨as,ra⟩:=I.readsL rr rv
  exact ⟨_,.list h1 h2 h3 (by simpa using ra)⟩
theorem Inv.readsL (I:Inv X pins σ H s) {a0:Addr→Prop}:∀ {xs:List V}{ds:List PyData}{us:List Value},RpL X.K H a0 xs ds→Vals xs us→∃ as,ReadsAll s.heap us ds as
 | _,_,_,.nil,.nil=>⟨_,.nil⟩
 | _,_,_,.cons h t,.cons r rr=>by
  obtain ⟨a1,q1⟩:=I.reads h r
  obtain ⟨a2,q2⟩:=I.readsL t rr
  exact ⟨_,.cons q1 q2⟩
end
def okD (d:PyData):Prop:=d.canLay0=true∧d.depth≤60
theorem zTV (hu:X.A.units+64<cLine):OpR X (compareOp .Eq) (fun x y H Q=>∃ (N N':Addr→Prop) (da db:PyData),Rp X.K H N x da∧Rp X.K H N' y db∧okD da∧okD db∧Q (.bl (PyData.eqv da db)) H):=by
 intro pins s σ H x y v u Q I rx ry h
 obtain ⟨N,N',da,db,hx,hy,o1,o2,q⟩:=h
 obtain ⟨as,ra⟩:=I.reads hx rx
 obtain ⟨bs,rb⟩:=I.reads hy ry
 exact SeqAt.compareEq_reads ra rb o1.1 o2.1 (by have:=o1.2; omega) ⟨.bl _,H,I,rfl,q⟩
theorem zTR (hu:X.A.units+64<cLine):OpR X (compareOp .NotEq) (fun x y H Q=>∃ (N N':Addr→Prop) (da db:PyData),Rp X.K H N x da∧Rp X.K H N' y db∧okD da∧okD db∧Q (.bl (!PyData.eqv da db)) H):=by
 intro pins s σ H x y v u Q I rx ry h
 obtain ⟨N,N',da,db,hx,hy,o1,o2,q⟩:=h
 obtain ⟨as,ra⟩:=I.reads hx rx
 obtain ⟨bs,rb⟩:=I.reads hy ry
 exact SeqAt.compareNe_reads ra rb o1.1 o2.1 (by have:=o1.2; omega) ⟨.bl _,H,I,rfl,q⟩
end
open PySem PySem.Spec PyProof.Rows
def SqX (b:Bool) (K:W.Frag) (H:Hp) (a:Addr) (xs:List V):Prop:=match b with
 | true=>SqT K H a xs
 | false=>SqL K H a xs
def IsX (b:Bool) (h:Heap) (a:Addr) (vs:Array Value):Prop:=match b with
 | true=>h.IsTuple a vs
 | false=>h.IsList a vs
def ItX (b:Bool) (h:Heap) (j a:Addr) (i:Nat):Prop:=match b with
 | true=>h.IsTupleIter j a i
 | false=>h.IsListIter j a i
theorem ItX.obj {b:Bool}{h:Heap}{j a:Addr}{i:Nat} (x:ItX b h j a i):∃ o,h.get? j=some o∧∀ v,o.data≠.cell v:=by
 cases b with
 | true=>obtain ⟨o,h1,_,h2⟩:=(x:h.IsTupleIter j a i); exact ⟨o,h1,fun v q=>by rw [h2] at q; cases q⟩
 | false=>obtain ⟨o,h1,_,h2⟩:=(x:h.IsListIter j a i); exact ⟨o,h1,fun v q=>by rw [h2] at q; cases q⟩
theorem ItX.keep {b:Bool}{h h':Heap}{j a:Addr}{i:Nat} (x:ItX b h j a i) (e:∀ o,h.get? j=some o→h'.get? j=some o):ItX b h' j a i:=by
 cases b with
 | true=>exact Heap.IsTupleIter.at x e
 | false=>exact Heap.IsListIter.at x e
theorem IsX.lt {b:Bool}{h:Heap}{a:Addr}{vs:Array Value} (x:IsX b h a vs):a<h.objs.size:=by
 cases b with
 | true=>obtain ⟨_,e,_⟩:=(x:h.IsTuple a vs); exact qB6 e
 | false=>obtain ⟨_,e,_⟩:=(x:h.IsList a vs); exact qB6 e
theorem zGr {prog:Program}{w:World}{A:Around} (b:Bool) (hh:A.handled=none) (j t:Addr) (hne:t≠j) (vs:Array Value) :
  Draws prog w A j [j,t] vs.size (fun i v=>vs[i]?=some v) (fun i h=>ItX b h j t i∧IsX b h t vs):=by
 cases b with
 | true=>exact zLt hh j t hne vs
 | false=>exact Draws.list hh j t hne vs
section
variable {X:Cx}{pins:List (Addr × Obj)}{σ:St}{H:Hp}{s:Shared}
theorem Inv.sqX (I:Inv X pins σ H s) {b:Bool}{a:Addr}{xs:List V} (h:SqX b X.K H a xs):∃ its,Vals xs its∧IsX b s.heap a its.toArray:=by
 cases b with
 | true=>obtain ⟨its,r,p,_⟩:=I.tuple h; exact ⟨its,r,p⟩
 | false=>obtain ⟨its,r,p,_⟩:=I.list h; exact ⟨its,r,p.isList⟩
theorem Inv.sqX_inj (I:Inv X pins σ H s) {b:Bool}{a:Addr}{xs ys:List V} (h:SqX b X.K H a xs) (h':SqX b X.K H a ys):xs=ys:=by
 cases b with
 | true=>exact I.tuple_inj h h'
 | false=>exact I.list_inj h h'
end
noncomputable def IteX (b:Bool) (K:W.Frag) (a:Addr):It :=
  ⟨fun i H=>∃ xs x,SqX b K H a xs∧xs[i]?=some x,
   fun i H v H'=>∃ T,H T=none∧v=.ref T∧∀ xs x,SqX b K H a xs→xs[i]?=some x→H'=upd H T (.tup [.int i,x]),
   fun i H=>∃ xs,SqX b K H a xs∧i=xs.length⟩
theorem allN {P:Addr→Prop}:∀ x∈([]:List Addr),P x:=fun _ h=>by cases h
theorem allC {P:Addr→Prop}{a:Addr}{l:List Addr} (h:P a) (t:∀ x∈l,P x):∀ x∈a::l,P x:=fun x hx=>(qB9.mp hx).elim (fun e=>e▸h) (t x)
theorem zQb {X:Cx}{pins:List (Addr × Obj)}{H:Hp}{T:Addr}{o:HO}{ws:List Addr} (h:∀ b∈ws,FpOk X pins H b) (n:∀ b∈ws,b≠T):∀ b∈ws,FpOk X pins (upd H T o) b:=fun b hb=>⟨by rw [zAa (n b hb)]; exact (h b hb).1,(h b hb).2⟩
structure EsX (b:Bool) (e it a:Addr) (i:Nat) (h:Heap):Prop where
 a1:∃ old,IsEnum h e it (i:Nat) old
 a2:ItX b h it a i
theorem EsX.obj {b:Bool}{e it a:Addr}{i:Nat}{h:Heap} (st:EsX b e it a i h):∀ c∈[e,it],∃ o,h.get? c=some o∧∀ v,o.data≠.cell v:=by
 obtain ⟨_,a1⟩:=st.a1
 exact allC ⟨_,a1,fun v q=>by cases q⟩ (allC st.a2.obj allN)
theorem EsX.ne {b:Bool}{e it a:Addr}{i:Nat}{h:Heap} (st:EsX b e it a i h) {T:Addr} (hT:h.objs.size≤T):∀ c∈[e,it],c≠T:=fun c hc=>by
 obtain ⟨o,z,_⟩:=st.obj c hc
 exact qC7 (qC3 (qB6 z) hT)
theorem zyE {b:Bool}{a:Addr}{i:Nat}{X:Cx}{pins:List (Addr × Obj)}{σ:St}{H:Hp}{s:Shared} (I:Inv X pins σ H s) {xs:List V}{x:V} (q1:SqX b X.K H a xs) (ex:xs[i]?=some x) {T:Addr} (xs':List V) (x':V) (s1:SqX b X.K H a xs') (t1:xs'[i]?=some x'):upd H T (.tup [.int i,x])=upd H T (.tup [.int i,x']):=by
 have h1:=I.sqX_inj q1 s1
 subst h1
 rw [ex] at t1
 cases t1; rfl
theorem zvE {t1:List Value}{u1:Value}{i:Nat}{vals:Array Value} (e1:t1[i]?=some u1) (hv:∃ tt v,t1.toArray[i]?=some v∧vals=#[.int (i:Nat) tt,v]):∃ tt,vals=#[.int (i:Nat) tt,u1]:=by
 obtain ⟨tt,v,g,rfl⟩:=hv
 rw [qD3,e1] at g
 cases g; exact ⟨tt,rfl⟩
theorem zG2 {P:Program}{w:World}{K:PySem.W.Frag}{elts:List Expr}{k:Nat}{pos:Pos} (b:Bool) (e it a:Addr) (hei:e≠it) (hea:e≠a) (hai:a≠it) :
  Turn P w K (.Tuple elts k pos) (IteX b K a) [e,it] e (EsX b e it a) where
 mem:=by simp
 obj:=fun i h st=>st.obj
 keep:=fun i h h' ⟨⟨old,h1⟩,h2⟩ kk=>⟨⟨old,kk e (by simp) _ h1⟩,h2.keep fun o z=>kk it (by simp) o z⟩
 item:=by
  intro X hP hw hK hc i pins s σ H E I hf st hg
  subst hP hw hK
  obtain ⟨xs,x,q1,ex⟩:=hg
  obtain ⟨its1,r1,p1⟩:=I.sqX q1
  obtain ⟨u1,e1,ru1⟩:=r1.get ex
  have D:=zGr (prog:=X.prog) (w:=X.w) (A:=X.A.in1) b (show X.A.in1.handled=none from I.ok.hd hc) it a hai its1.toArray
  have W:=WalksT.enumerateD (A:=X.A) D e hei (by simp [hei,hea]) (by simp)
  have hl1:i<its1.length:=(qA1.mp e1).1
  refine W.item i s _ _ (by simp only [qA8]; omega) ⟨st.1,st.2,p1⟩ fun T vals h' tk hv hT hIs hM kk=>?_
  obtain ⟨tt,hvv⟩:=zvE e1 hv
  subst hvv
  have nT:=st.ne hT
  refine ⟨_,rfl,W.go _ _ _ i T { s with heap:=h',toks:=tk } _ _ hM fun h2 st2 kk2=>?_⟩
  have I1:Inv X pins σ (upd H T (.tup [.int i,x])) { s with heap:=h',toks:=tk }:=I.yields (its:=[.int i tt,u1]) hf kk hT (.cons ⟨tt,rfl⟩ (.cons ru1 .nil)) (by show 2≤sizeLine; decide) hIs
  exact ⟨.ref T,_,I1.turnedL (tk:=tk) (zQb hf nT) kk2,rfl,⟨T,I.hok.fresh hT,rfl,zyE I q1 ex⟩,⟨st2.1,st2.2.1⟩,fun c hc=>by rw [zAa (nT c hc)]; exact (hf c hc).1⟩
 done:=by
  intro X hP hw hK hc i pins s σ H E I hf st hg
  subst hP hw hK
  obtain ⟨xs,q1,ei⟩:=hg
  obtain ⟨its1,r1,p1⟩:=I.sqX q1
  have D:=zGr (prog:=X.prog) (w:=X.w) (A:=X.A.in1) b (show X.A.in1.handled=none from I.ok.hd hc) it a hai its1.toArray
  have W:=WalksT.enumerateD (A:=X.A) D e hei (by simp [hei,hea]) (by simp)
  have en:i=its1.toArray.size:=by rw [qA8,← r1.length]; exact ei
  refine W.done s _ _ (by rw [← en]; exact ⟨st.1,st.2,p1⟩) fun h' tk kk=>?_
  exact ⟨rfl,I.turnedL hf kk⟩
 self:=fun _ _ _ _ _ st h=>let ⟨⟨_,z⟩,_⟩:=st; wpAny_pyIter_enum z h
section
variable {X:Cx}
noncomputable def zQ9 (K:W.Frag) (ta:TA):TI:=fun σ H R=>ta σ H fun vs H1=>∃ a,vs=[.ref a]∧((∃ xs,SqT K H1 a xs)∧R (IteX true K a) H1∨(∃ xs,SqL K H1 a xs)∧R (IteX false K a) H1)
theorem zOQ {elts:List Expr}{k:Nat}{tpos:Pos}{a:Expr}{ta:TA}{p pos:Pos} (hg:Gl X "enumerate") (hm:X.mg "enumerate"=none) (ha:PA X [a] ta) (hs:starEach [a] X.env=[(false,eval a X.env)]:=by rfl) :
  PI X (.Tuple elts k tpos) (.Call (.Name "enumerate" p) [a] [] pos) (zQ9 X.K ta):=by
 intro pins s σ H R I h
 refine Call_ (zF8 I hg hm zIv (PyProof.Rows.callWith_type1 (thn (ha pos pins s σ H _ I h) fun us s1 ⟨vs,H1,I1,r1,q1⟩=>?_) (by rw [hs]; rfl) (by rfl)))
 obtain ⟨t,e,q⟩:=q1
 subst e
 rcases q with ⟨⟨xs,h1⟩,q⟩ | ⟨⟨xs,h1⟩,q⟩
 ·cases r1 with
  | cons r rr =>
   cases rr
   cases r
   obtain ⟨its1,v1,p1,z1⟩:=I1.tuple h1
   obtain ⟨⟨c,dct,dt,sl⟩,hl,hc,n,hd⟩:=id p1
   replace hc:c=.type "tuple":=hc
   replace hd:dt=.seq its1.toArray n:=hd
   subst hc hd
   have hlt:t<s1.heap.objs.size:=qB6 hl
   refine callType_new PySem.F.called_enumerate (by decide) (PySem.F.typeCall_enumerate_1 _) (PySem.F.newCall_enumerate_1 _) (fun obj=>PySem.F.args_object_init_2 obj _) PySem.F.entry_enumerate_new (zPD t its1.toArray n dct sl) ⟨hl,?_⟩
   have hz:(s1.heap.push { cls:=.type "tuple_iterator",data:=.fields #[.ref t,.int 0 0] }).objs.size=s1.heap.objs.size+1:=qG2 ..
   show _∧_
   rw [hz]
   have he:IsEnum ((s1.heap.push { cls:=.type "tuple_iterator",data:=.fields #[.ref t,.int 0 0] }).push { cls:=.type "enumerate",data:=.fields #[.none,.bool false,.ref s1.heap.objs.size,rawInt 0,.none,.none] }) (s1.heap.objs.size+1) s1.heap.objs.size 0 .none:=by
    have z:=qB4 (s1.heap.push { cls:=.type "tuple_iterator",data:=.fields #[.ref t,.int 0 0] }) (o:={ cls:=.type "enumerate",data:=.fields #[.none,.bool false,.ref s1.heap.objs.size,rawInt 0,.none,.none] }) rfl
    rw [hz] at z
    exact z
   refine ⟨⟨_,he,rfl⟩,?_⟩
   refine wpAny_pyIter_enum he ?_
   have kp:∀ b o,s1.heap.get? b=some o→((s1.heap.push { cls:=.type "tuple_iterator",data:=.fields #[.ref t,.int 0 0] }).push { cls:=.type "enumerate",data:=.fields #[.none,.bool false,.ref s1.heap.objs.size,rawInt 0,.none,.none] }).get? b=some o:=fun b o x=>qA5 _ (qA5 _ x)
   refine ⟨_,_,_,_,H1,rfl,I1.kept (t':=s1.toks) kp,zG2 true (s1.heap.objs.size+1) s1.heap.objs.size t (qR7 _) (qI9 (qG3 hlt)) (qC7 hlt),⟨⟨_,he⟩,⟨_,qA5 _ (qB4 _ rfl),rfl,rfl⟩⟩,fun b hb=>?_,q⟩
   have hle:s1.heap.objs.size≤b:=by
    simp only [qB9,qJ9,or_false] at hb
    rcases hb with rfl | rfl
    ·exact qN6 _
    ·exact qB0 _
   exact I1.fpOk hle (I1.hok.fresh hle)
 ·cases r1 with
  | cons r rr =>
   cases rr
   cases r
   obtain ⟨its1,v1,p1,z1⟩:=I1.list h1
   have hlt:t<s1.heap.objs.size:=by obtain ⟨_,e,_⟩:=p1.isList; exact qB6 e
   refine call_enumerate_list p1.isList fun h' he hi hsz hk=>?_
   refine wpAny_pyIter_enum he ?_
   refine ⟨_,_,_,_,H1,rfl,I1.kept (t':=s1.toks) hk,zG2 false (s1.heap.objs.size+1) s1.heap.objs.size t (qR7 _) (qI9 (qG3 hlt)) (qC7 hlt),⟨⟨_,he⟩,hi⟩,fun b hb=>?_,q⟩
   have hle:s1.heap.objs.size≤b:=by
    simp only [qB9,qJ9,or_false] at hb
    rcases hb with rfl | rfl
    ·exact qN6 _
    ·exact qB0 _
   exact I1.fpOk hle (I1.hok.fresh hle)
end
open PySem PySem.Spec PyProof.Rows
structure ZAp (z TI TO i1 i2:Addr) (f1 f2:List Addr):Prop where
 TIz:TI≠z
 TOz:TO≠z
 i1z:i1≠z
 i2z:i2≠z
 TITO:TI≠TO
 TIi1:TI≠i1
 TIi2:TI≠i2
 TOi1:TO≠i1
 TOi2:TO≠i2
 i12:i1≠i2
 z1:z∉f1
 z2:z∉f2
 O1:TO∉f1
 O2:TO∉f2
 j1:i2∉f1
 j2:i1∉f2
section
variable {prog:Program}{w:World}{A:Around}{E:Value→Shared→Prop}{s:Shared}
variable {z TI TO i1 i2:Addr}{f1 f2:List Addr}{n1 n2 k:Nat}{P1 P2:Nat→Value→Prop}{S1 S2:Nat→Heap→Prop}
theorem Draws.sb {j c:Addr}{fp:List Addr}{n i:Nat}{P:Nat→Value→Prop}{St:Nat→Heap→Prop}{h h':Heap} (D:Draws prog w A j fp n P St) (st:St i h) (sb:qE2 c h h') (hc:c∉fp):St i h' :=
 D.frame _ _ _ st fun b hb o e=>sb.extBut b o (fun q=>hc (q▸hb)) e
theorem zJU {Q:Fin→Shared→Prop}{a b:Value} (hz:IsZip s.heap z TI TO .none) (hTI:IsPair s.heap TI (.ref i1) (.ref i2)) (hTO:IsPair s.heap TO a b) (hh:A.handled=none)
  (D1:∀ A:Around,A.handled=none→Draws prog w A i1 f1 n1 P1 S1) (D2:∀ A:Around,A.handled=none→Draws prog w A i2 f2 n2 P2 S2) (ap:ZAp z TI TO i1 i2 f1 f2) (h1:S1 k s.heap) (h2:S2 k s.heap)
  (hQ:k<n1→k<n2→∀ x y h' tk,P1 k x→P2 k y→IsZip h' z TI TO (rawInt s.heap.objs.size)→IsPair h' TO x y→S1 (k+1) h'→S2 (k+1) h'→IsPair h' s.heap.objs.size x y→h'.objs.size=s.heap.objs.size+1 →
   (∀ c o,c≠z→c≠TO→c≠i1→c≠i2→s.heap.get? c=some o→h'.get? c=some o)→Q (.done (.ret (.ref s.heap.objs.size))) { s with heap:=h',toks:=tk })
  (hE:(k=n1∨k=n2)→∀ h' e tk,(∀ c o,c≠z→c≠TO→c≠i1→c≠i2→s.heap.get? c=some o→h'.get? c=some o)→(∃ o,h'.get? e=some o∧o.cls=.type "StopIteration")→E (.ref e) { s with heap:=h',toks:=tk })
  (hk1:k≤n1) (hk2:k≤n2):wpAny (model prog w) A (Builtin.«zip.__next__» ⟨[.ref z],[]⟩) Q E s:=by
 show wpAny _ _ (field (.ref z) 2 >>= _) _ _ _
 refine wpAny_bind (wpAny_field hz rfl (x:=.bool false) rfl ?_)
 show wpAny _ _ (field (.ref z) 3 >>= _) _ _ _
 refine wpAny_bind (wpAny_field hz rfl (x:=.ref TI) rfl ?_)
 refine wpAny_bind (wpAny_seqItems hTI rfl ?_)
 show wpAny _ _ (Builtin.SmallTypes.ownedTupleIsFree (.ref z) >>= _) _ _ _
 refine wpAny_bind ?_
 unfold Builtin.SmallTypes.ownedTupleIsFree
 refine wpAny_bind (wpAny_field hz rfl (x:=.none) rfl (wpAny_pure ?_))
 simp only [if_true]
 refine wpAny_bind (wpAny_rule ?_)
 refine wpAny_bind (wpAny_field hz rfl (x:=.ref TO) rfl ?_)
 refine wpAny_bind (wpAny_setField_rec hz (by simp) fun ha za sa=>?_)
 replace za:IsZip ha z TI TO .ellipsis:=za
 have s1a:S1 k ha:=Draws.sb (D1 A hh) h1 sa ap.z1
 have s2a:S2 k ha:=Draws.sb (D2 A hh) h2 sa ap.z2
 have oa:IsPair ha TO a b:=sa.extBut _ _ ap.TOz hTO
 refine wpAny_bind ?_
 simp only [qR8,List.zipIdx_nil,qS8,qT4]
 refine wpAny_bind (wpAny_bind (wpAny_onRaise ?_))
 show wpAny _ _ (Builtin.SmallTypes.nextOf (.ref i1) >>= _) _ _ _
 by_cases l1:k<n1
 ·refine wpAny_bind ((D1 _ hh).item k _ _ _ l1 s1a fun x hb tb px s1b sb=>wpAny_pure ?_)
  have ob:IsPair hb TO a b:=sb.extBut _ _ ap.TOi1 oa
  have s2b:S2 k hb:=Draws.sb (D2 A hh) s2a sb ap.j2
  have zb:IsZip hb z TI TO .ellipsis:=sb.extBut _ _ ap.i1z.symm za
  refine wpAny_bind (wpAny_seqItems ob rfl ?_)
  refine wpAny_bind (wpAny_updateSeq_pair ob fun hc oc sc=>?_)
  replace oc:IsPair hc TO x b:=oc
  have s1c:S1 (k+1) hc:=Draws.sb (D1 A hh) s1b sc ap.O1
  have s2c:S2 k hc:=Draws.sb (D2 A hh) s2b sc ap.O2
  have zc:IsZip hc z TI TO .ellipsis:=sc.extBut _ _ ap.TOz.symm zb
  refine wpAny_bind (wpAny_letGo (wpAny_pure ?_))
  refine wpAny_bind (wpAny_bind (wpAny_onRaise ?_))
  show wpAny _ _ (Builtin.SmallTypes.nextOf (.ref i2) >>= _) _ _ _
  by_cases l2:k<n2
  ·refine wpAny_bind ((D2 _ hh).item k _ _ _ l2 s2c fun y hd td py s2d sd=>wpAny_pure ?_)
   have od:IsPair hd TO x b:=sd.extBut _ _ ap.TOi2 oc
   have s1d:S1 (k+1) hd:=Draws.sb (D1 A hh) s1c sd ap.j1
   have zd:IsZip hd z TI TO .ellipsis:=sd.extBut _ _ ap.i2z.symm zc
   refine wpAny_bind (wpAny_seqItems od rfl ?_)
   refine wpAny_bind (wpAny_updateSeq_pair od fun he oe se=>?_)
   replace oe:IsPair he TO x y:=oe
   have s1e:S1 (k+1) he:=Draws.sb (D1 A hh) s1d se ap.O1
   have s2e:S2 (k+1) he:=Draws.sb (D2 A hh) s2d se ap.O2
   have ze:IsZip he z TI TO .ellipsis:=se.extBut _ _ ap.TOz.symm zd
   refine wpAny_bind (wpAny_letGo (wpAny_pure (wpAny_pure ?_)))
   refine wpAny_bind (wpAny_seqItems oe rfl ?_)
   refine wpAny_bind (wpAny_newTuple ?_)
   have hsz:he.objs.size=s.heap.objs.size:=by rw [se.1,sd.1,sc.1,sb.1,sa.1]
   have kp:∀ c o,c≠z→c≠TO→c≠i1→c≠i2→s.heap.get? c=some o→he.get? c=some o:=fun c o c1 c2 c3 c4 e =>
    se.extBut _ _ c2 (sd.extBut _ _ c4 (sc.extBut _ _ c2 (sb.extBut _ _ c3 (sa.extBut _ _ c1 e))))
   have zlt:z<he.objs.size:=qB6 ze
   show wpAny _ _ (Builtin.SmallTypes.ownedTupleHandOut (.ref z) (.ref he.objs.size) >>= _) _ _ _
   refine wpAny_bind ?_
   unfold Builtin.SmallTypes.ownedTupleHandOut
   have zf:IsZip (he.push { cls:=.type "tuple",data:=.seq #[x,y] }) z TI TO .ellipsis:=qA5 _ ze
   refine wpAny_bind (wpAny_setField_rec zf (by simp) fun hg zg sg=>?_)
   replace zg:IsZip hg z TI TO (rawInt he.objs.size):=zg
   refine wpAny_setField_rec zg (by simp) fun hi zi si=>?_
   replace zi:IsZip hi z TI TO (rawInt he.objs.size):=zi
   have up:∀ c o,c≠z→he.get? c=some o→hi.get? c=some o:=fun c o c1 e=>si.extBut _ _ c1 (sg.extBut _ _ c1 (qA5 _ e))
   have tz:IsPair hi he.objs.size x y:=si.extBut _ _ (qI9 zlt) (sg.extBut _ _ (qI9 zlt) (qB4 _ rfl))
   have zz:hi.objs.size=he.objs.size+1:=by rw [si.1,sg.1,qG2]
   have s1i:S1 (k+1) hi:=(D1 A hh).frame _ _ _ s1e fun b hb o e=>up b o (fun q=>ap.z1 (q▸hb)) e
   have s2i:S2 (k+1) hi:=(D2 A hh).frame _ _ _ s2e fun b hb o e=>up b o (fun q=>ap.z2 (q▸hb)) e
   rw [hsz] at zi tz zz
   refine wpAny_pure ?_
   show Q (.done (.ret (.ref he.objs.size))) _
   rw [hsz]
   exact hQ l1 l2 x y hi td px py zi (up _ _ ap.TOz oe) s1i s2i tz zz fun c o c1 c2 c3 c4 e=>up c o c1 (kp c o c1 c2 c3 c4 e)
  ·have e2:k=n2:=qS9 hk2 (qO1 l2)
   refine wpAny_bind ((D2 _ hh).done _ _ _ (e2▸s2c) fun hd e sd he=>?_)
   obtain ⟨oe,hoe,hce⟩:=he
   have zd:IsZip hd z TI TO .ellipsis:=sd _ _ ap.i2z.symm zc
   have hez:e≠z:=fun q=>by subst q; rw [zd] at hoe; cases hoe; simp at hce
   refine wpAny_setField_rec zd (by simp) fun hf _ sf=>hE (.inr e2) hf e tb (fun c o c1 c2 c3 c4 q=>sf.extBut _ _ c1 (sd _ _ c4 (sc.extBut _ _ c2 (sb.extBut _ _ c3 (sa.extBut _ _ c1 q))))) ⟨oe,sf.extBut _ _ hez hoe,hce⟩
 ·have e1:k=n1:=qS9 hk1 (qO1 l1)
  refine wpAny_bind ((D1 _ hh).done _ _ _ (e1▸s1a) fun hd e sd he=>?_)
  obtain ⟨oe,hoe,hce⟩:=he
  have zd:IsZip hd z TI TO .ellipsis:=sd _ _ ap.i1z.symm za
  have hez:e≠z:=fun q=>by subst q; rw [zd] at hoe; cases hoe; simp at hce
  exact wpAny_setField_rec zd (by simp) fun hf _ sf=>hE (.inl e1) hf e s.toks (fun c o c1 _ c3 _ q=>sf.extBut _ _ c1 (sd _ _ c3 (sa.extBut _ _ c1 q))) ⟨oe,sf.extBut _ _ hez hoe,hce⟩
theorem WalksT.zipD (hh:A.handled=none) (D1:∀ A:Around,A.handled=none→Draws prog w A i1 f1 n1 P1 S1) (D2:∀ A:Around,A.handled=none→Draws prog w A i2 f2 n2 P2 S2) (ap:ZAp z TI TO i1 i2 f1 f2) (m1:i1∈f1) (m2:i2∈f2) :
  WalksT prog w A z (z::TI::TO::f1++f2) [z,TO,i1,i2] (min n1 n2) (fun i vals=>∃ x y,P1 i x∧P2 i y∧vals=#[x,y])
   (fun i h=>IsZip h z TI TO .none∧IsPair h TI (.ref i1) (.ref i2)∧(∃ a b,IsPair h TO a b)∧S1 i h∧S2 i h)
   (fun i T h=>IsZip h z TI TO (rawInt T)∧IsPair h TI (.ref i1) (.ref i2)∧(∃ a b,IsPair h TO a b)∧S1 (i+1) h∧S2 (i+1) h∧T≠z∧T≠TO∧T≠i1∧T≠i2) where
 sub:=fun c hc=>by simp at hc ⊢; rcases hc with rfl | rfl | rfl | rfl <;> simp [m1,m2]
 frame:=fun i h h' hst hk=>by
  obtain ⟨hz,hTI,⟨a,b,hTO⟩,h1,h2⟩:=hst
  exact ⟨hk z (by simp) _ hz,hk TI (by simp) _ hTI,⟨a,b,hk TO (by simp) _ hTO⟩,(D1 A hh).frame _ _ _ h1 fun b hb o e=>hk b (by simp [hb]) o e,(D2 A hh).frame _ _ _ h2 fun b hb o e=>hk b (by simp [hb]) o e⟩
 item:=fun i s Q E hi hst hQ=>by
  obtain ⟨hz,hTI,⟨a,b,hTO⟩,h1,h2⟩:=hst
  have hT:s.TypeIs (.ref z) "zip":=⟨_,hz,rfl⟩
  have lt:∀ {c o},s.heap.get? c=some o→s.heap.objs.size≠c:=fun e=>qI9 (qB6 e)
  unfold pyNext
  refine wpAny_bind (wpAny_attempt (wpAny_callSpecial?_slot (name:=Str.ofString "__next__") hT F.slot_zip_next
   (wpAny_call_entry F.slot_zip_next hT F.entry_zip_next (zJU hz hTI hTO hh D1 D2 ap h1 h2 (fun _ _ x y h' tk px py a1 a2 a3 a4 a5 a6 hk=>⟨_,rfl,wpAny_pure ?_⟩) (fun q=>by omega) (by omega) (by omega)) (F.args_zip_next_1 _))))
  refine hQ s.heap.objs.size #[x,y] h' tk ⟨x,y,px,py,rfl⟩ (qB0 _) ⟨_,a5,rfl,_,rfl⟩ ⟨a1,hk _ _ ap.TIz ap.TITO ap.TIi1 ap.TIi2 hTI,⟨_,_,a2⟩,a3,a4,lt hz,lt hTO,?_,?_⟩
   fun c o hc e=>hk c o (fun x=>hc (by simp [x])) (fun x=>hc (by simp [x])) (fun x=>hc (by simp [x])) (fun x=>hc (by simp [x])) e
  ·obtain ⟨_,e⟩:=(D1 A hh).live _ _ h1; exact lt e
  ·obtain ⟨_,e⟩:=(D2 A hh).live _ _ h2; exact lt e
 go:=fun elts k pos i T s Q E hm hQ=>by
  obtain ⟨hz,hTI,⟨a,b,hTO⟩,h1,h2,_⟩:=hm
  refine wpAny_letOwnedTupleGo_zip hz fun h' hz' hs'=>hQ h' ⟨hz',hs'.extBut _ _ ap.TIz hTI,⟨a,b,hs'.extBut _ _ ap.TOz hTO⟩,Draws.sb (D1 A hh) h1 hs' ap.z1,Draws.sb (D2 A hh) h2 hs' ap.z2⟩ fun c o hc e=>hs'.extBut _ _ (fun x=>hc (by simp [x])) e
 apart:=fun i T h hm hT=>by
  obtain ⟨_,_,_,_,_,t1,t2,t3,t4⟩:=hm
  simp at hT
  rcases hT with rfl | rfl | rfl | rfl
  ·exact t1 rfl
  ·exact t2 rfl
  ·exact t3 rfl
  ·exact t4 rfl
 done:=fun s Q E hst hQ=>by
  obtain ⟨hz,hTI,⟨a,b,hTO⟩,h1,h2⟩:=hst
  have hT:s.TypeIs (.ref z) "zip":=⟨_,hz,rfl⟩
  unfold pyNext
  refine wpAny_bind (wpAny_attempt (wpAny_callSpecial?_slot (name:=Str.ofString "__next__") hT F.slot_zip_next
   (wpAny_call_entry F.slot_zip_next hT F.entry_zip_next (zJU hz hTI hTO hh D1 D2 ap h1 h2 (fun q1 q2=>by omega) (fun _ h' e tk hk he=>?_) (by omega) (by omega)) (F.args_zip_next_1 _))))
  obtain ⟨o,ho,hc⟩:=he
  refine wpAny_bind (wpAny_isInstance (T := "StopIteration") (b:=true) ⟨o,ho,hc⟩ isSubtype_stop ?_)
  exact wpAny_pure (hQ _ _ fun c o hc e=>hk c o (fun x=>hc (by simp [x])) (fun x=>hc (by simp [x])) (fun x=>hc (by simp [x])) (fun x=>hc (by simp [x])) e)
 self:=fun i s Q E hst hQ=>wpAny_pyIter_zip hst.1 hQ
end
open PySem PySem.Spec PyProof.Rows
noncomputable def itO (b:Bool) (l:Addr):Obj:={ cls:=.type (if b then "tuple_iterator" else "list_iterator"),data:=.fields #[.ref l,.int 0 0] }
noncomputable abbrev zq2 (h:Heap) (b1 b2:Bool) (l1 l2:Addr):Heap:=(h.push (itO b1 l1)).push (itO b2 l2)
noncomputable abbrev zq3 (h:Heap) (b1 b2:Bool) (l1 l2:Addr):Heap:=(zq2 h b1 b2 l1 l2).push { cls:=.type "tuple",data:=.seq #[.ref h.objs.size,.ref (h.push (itO b1 l1)).objs.size] }
noncomputable abbrev zq4 (h:Heap) (b1 b2:Bool) (l1 l2:Addr):Heap:=(zq3 h b1 b2 l1 l2).push { cls:=.type "tuple",data:=.seq #[.none,.none] }
noncomputable abbrev zq5 (h:Heap) (b1 b2:Bool) (l1 l2:Addr):Heap:=(zq4 h b1 b2 l1 l2).push { cls:=.type "zip",data:=.fields #[.none,.bool false,.bool false,.ref (zq2 h b1 b2 l1 l2).objs.size,.ref (zq3 h b1 b2 l1 l2).objs.size] }
theorem zLT (l1 l2:Addr) (xs ys:Array Value) :
  Meets (Builtin.«zip.__new__» ⟨[.type "zip",.ref l1,.ref l2],[]⟩) (fun _ R s=>s.heap.IsTuple l1 xs∧s.heap.IsTuple l2 ys ∧
   R (.ok (.ret (.ref (zq4 s.heap true true l1 l2).objs.size))) { s with heap:=zq5 s.heap true true l1 l2 }) :=
 .of_wp fun prog w A R s h=>by
  obtain ⟨hp,g,d,tk,os⟩:=s; obtain ⟨hl1,hl2,h⟩:=h
  have hsub:=sub_zip
  have hL1:qK0 (Shared.heap ⟨hp,g,d,tk,os⟩) l1 xs:=hl1
  have hL2:qK0 (Shared.heap ⟨hp.push { cls:=.type "tuple_iterator",data:=.fields #[.ref l1,.int 0 0] },g,d,tk,os⟩) l2 ys:=qK0.push hl2 _
  wp_walk using wpAny_pyIter_tuple hL1,wpAny_pyIter_tuple hL2
  exact ⟨_,rfl,h⟩
theorem zLU (l1 l2:Addr) (xs ys:Array Value) :
  Meets (Builtin.«zip.__new__» ⟨[.type "zip",.ref l1,.ref l2],[]⟩) (fun _ R s=>s.heap.IsTuple l1 xs∧s.heap.IsList l2 ys ∧
   R (.ok (.ret (.ref (zq4 s.heap true false l1 l2).objs.size))) { s with heap:=zq5 s.heap true false l1 l2 }) :=
 .of_wp fun prog w A R s h=>by
  obtain ⟨hp,g,d,tk,os⟩:=s; obtain ⟨hl1,hl2,h⟩:=h
  have hsub:=sub_zip
  have hL1:qK0 (Shared.heap ⟨hp,g,d,tk,os⟩) l1 xs:=hl1
  have hL2:qM1 (Shared.heap ⟨hp.push { cls:=.type "tuple_iterator",data:=.fields #[.ref l1,.int 0 0] },g,d,tk,os⟩) l2 ys:=qM1.push hl2 _
  wp_walk using wpAny_pyIter_tuple hL1,wpAny_pyIter_list hL2
  exact ⟨_,rfl,h⟩
theorem zLV (l1 l2:Addr) (xs ys:Array Value) :
  Meets (Builtin.«zip.__new__» ⟨[.type "zip",.ref l1,.ref l2],[]⟩) (fun _ R s=>s.heap.IsList l1 xs∧s.heap.IsTuple l2 ys ∧
   R (.ok (.ret (.ref (zq4 s.heap false true l1 l2).objs.size))) { s with heap:=zq5 s.heap false true l1 l2 }) :=
 .of_wp fun prog w A R s h=>by
  obtain ⟨hp,g,d,tk,os⟩:=s; obtain ⟨hl1,hl2,h⟩:=h
  have hsub:=sub_zip
  have hL1:qM1 (Shared.heap ⟨hp,g,d,tk,os⟩) l1 xs:=hl1
  have hL2:qK0 (Shared.heap ⟨hp.push { cls:=.type "list_iterator",data:=.fields #[.ref l1,.int 0 0] },g,d,tk,os⟩) l2 ys:=qK0.push hl2 _
  wp_walk using wpAny_pyIter_list hL1,wpAny_pyIter_tuple hL2
  exact ⟨_,rfl,h⟩
theorem zLW (l1 l2:Addr) (xs ys:Array Value) :
  Meets (Builtin.«zip.__new__» ⟨[.type "zip",.ref l1,.ref l2],[]⟩) (fun _ R s=>s.heap.IsList l1 xs∧s.heap.IsList l2 ys ∧
   R (.ok (.ret (.ref (zq4 s.heap false false l1 l2).objs.size))) { s with heap:=zq5 s.heap false false l1 l2 }) :=
 .of_wp fun prog w A R s h=>by
  obtain ⟨hp,g,d,tk,os⟩:=s; obtain ⟨hl1,hl2,h⟩:=h
  have hsub:=sub_zip
  have hL1:qM1 (Shared.heap ⟨hp,g,d,tk,os⟩) l1 xs:=hl1
  have hL2:qM1 (Shared.heap ⟨hp.push { cls:=.type "list_iterator",data:=.fields #[.ref l1,.int 0 0] },g,d,tk,os⟩) l2 ys:=qM1.push hl2 _
  wp_walk using wpAny_pyIter_list hL1,wpAny_pyIter_list hL2
  exact ⟨_,rfl,h⟩
theorem zOk (b1 b2:Bool) (l1 l2:Addr) (xs ys:Array Value) :
  Meets (Builtin.«zip.__new__» ⟨[.type "zip",.ref l1,.ref l2],[]⟩) (fun _ R s=>IsX b1 s.heap l1 xs∧IsX b2 s.heap l2 ys ∧
   R (.ok (.ret (.ref (zq4 s.heap b1 b2 l1 l2).objs.size))) { s with heap:=zq5 s.heap b1 b2 l1 l2 }):=by
 cases b1 with
 | true=>cases b2 with
  | true=>exact zLT l1 l2 xs ys
  | false=>exact zLU l1 l2 xs ys
 | false=>cases b2 with
  | true=>exact zLV l1 l2 xs ys
  | false=>exact zLW l1 l2 xs ys
theorem zN6 {b:Bool}{h:Heap}{j l:Addr} (e:h.get? j=some (itO b l)):ItX b h j l 0:=by
 cases b with
 | true=>exact ⟨_,e,rfl,rfl⟩
 | false=>exact ⟨_,e,rfl,rfl⟩
theorem zKp (b:Bool) (l:Addr):(itO b l).isFreed=false:=by cases b <;> rfl
section
variable {prog:Program}{w:World}{A:Around}{E:Value→Shared→Prop}{s:Shared}
theorem zNU {b1 b2:Bool}{l1 l2:Addr}{xs ys:Array Value}{Q:Value→Shared→Prop} (hl1:IsX b1 s.heap l1 xs) (hl2:IsX b2 s.heap l2 ys)
  (h:∀ h',IsZip h' (s.heap.objs.size+4) (s.heap.objs.size+2) (s.heap.objs.size+3) .none→IsPair h' (s.heap.objs.size+2) (.ref s.heap.objs.size) (.ref (s.heap.objs.size+1)) →
   IsPair h' (s.heap.objs.size+3) .none .none→ItX b1 h' s.heap.objs.size l1 0→ItX b2 h' (s.heap.objs.size+1) l2 0 →
   (∀ c o,s.heap.get? c=some o→h'.get? c=some o)→Q (.ref (s.heap.objs.size+4)) { s with heap:=h' }) :
  wpAny (model prog w) A (call (.type "zip") [.ref l1,.ref l2]) Q E s:=by
 refine callType_new F.called_zip (by decide) (F.typeCall_zip_2 _ _) (F.newCall_zip_2 _ _) (fun obj=>F.args_object_init_3 obj _ _) F.entry_zip_new (zOk b1 b2 l1 l2 xs ys) ⟨hl1,hl2,?_⟩
 have z1:(s.heap.push (itO b1 l1)).objs.size=s.heap.objs.size+1:=qG2 ..
 have z2:(zq2 s.heap b1 b2 l1 l2).objs.size=s.heap.objs.size+2:=by rw [qG2,z1]
 have z3:(zq3 s.heap b1 b2 l1 l2).objs.size=s.heap.objs.size+3:=by rw [qG2,z2]
 have z4:(zq4 s.heap b1 b2 l1 l2).objs.size=s.heap.objs.size+4:=by rw [qG2,z3]
 have g5:(zq5 s.heap b1 b2 l1 l2).get? (zq4 s.heap b1 b2 l1 l2).objs.size=some _:=qB4 _ rfl
 have g4:(zq5 s.heap b1 b2 l1 l2).get? (zq3 s.heap b1 b2 l1 l2).objs.size=some _:=qA5 _ (qB4 _ rfl)
 have g3:(zq5 s.heap b1 b2 l1 l2).get? (zq2 s.heap b1 b2 l1 l2).objs.size=some _:=qA5 _ (qA5 _ (qB4 _ rfl))
 have g2:(zq5 s.heap b1 b2 l1 l2).get? (s.heap.push (itO b1 l1)).objs.size=some (itO b2 l2):=qA5 _ (qA5 _ (qA5 _ (qB4 _ (zKp _ _))))
 have g1:(zq5 s.heap b1 b2 l1 l2).get? s.heap.objs.size=some (itO b1 l1):=qA5 _ (qA5 _ (qA5 _ (qA5 _ (qB4 _ (zKp _ _)))))
 show _∧_
 rw [z2,z3,z4] at g5
 rw [z1,z2] at g3
 rw [z3] at g4
 rw [z1] at g2
 rw [z4]
 exact ⟨⟨_,g5,rfl⟩,h _ g5 g3 g4 (zN6 g1) (zN6 g2) fun c o x =>
  qA5 _ (qA5 _ (qA5 _ (qA5 _ (qA5 _ x))))⟩
end
theorem zQn {n l1 l2:Addr} (h1:l1<n) (h2:l2<n):ZAp (n+4) (n+2) (n+3) n (n+1) [n,l1] [n+1,l2]:=by
 constructor <;> (try simp only [qB9,qJ9,or_false,not_or]) <;> (try refine ⟨?_,?_⟩) <;> (show ¬ ((_:Nat)=_)) <;> (simp only [Addr] at *; omega)
inductive ZgoX (b1 b2:Bool) (K:W.Frag) (H:Hp) (a b:Addr) (i:Nat):Prop
 | mk (xs ys:List V) (x y:V) (q1:SqX b1 K H a xs) (q2:SqX b2 K H b ys) (ex:xs[i]?=some x) (ey:ys[i]?=some y)
inductive ZstX (b1 b2:Bool) (K:W.Frag) (H:Hp) (a b:Addr) (i:Nat):Prop
 | mk (xs ys:List V) (q1:SqX b1 K H a xs) (q2:SqX b2 K H b ys) (ei:i=min xs.length ys.length)
noncomputable def ItzX (b1 b2:Bool) (K:W.Frag) (a b:Addr):It :=
  ⟨fun i H=>ZgoX b1 b2 K H a b i,
   fun i H v H'=>∃ T,H T=none∧v=.ref T∧∀ xs ys x y,SqX b1 K H a xs→SqX b2 K H b ys→xs[i]?=some x→ys[i]?=some y→H'=upd H T (.tup [x,y]),
   fun i H=>ZstX b1 b2 K H a b i⟩
structure ZsX (b1 b2:Bool) (z TI TO i1 i2 l1 l2:Addr) (i:Nat) (h:Heap):Prop where
 a1:IsZip h z TI TO .none
 a2:IsPair h TI (.ref i1) (.ref i2)
 a3:∃ a b,IsPair h TO a b
 a4:ItX b1 h i1 l1 i
 a5:ItX b2 h i2 l2 i
section
variable {b1 b2:Bool}{z TI TO i1 i2 l1 l2:Addr}{i:Nat}{h:Heap}
theorem ZsX.obj (st:ZsX b1 b2 z TI TO i1 i2 l1 l2 i h):∀ b∈[z,TI,TO,i1,i2],∃ o,h.get? b=some o∧∀ v,o.data≠.cell v:=by
 obtain ⟨_,_,a3⟩:=st.a3
 exact allC ⟨_,st.a1,fun v q=>by cases q⟩ (allC ⟨_,st.a2,fun v q=>by cases q⟩ (allC ⟨_,a3,fun v q=>by cases q⟩ (allC st.a4.obj (allC st.a5.obj allN))))
theorem ZsX.ne (st:ZsX b1 b2 z TI TO i1 i2 l1 l2 i h) {T:Addr} (hT:h.objs.size≤T):∀ b∈[z,TI,TO,i1,i2],b≠T:=fun b hb=>by
 obtain ⟨o,e,_⟩:=st.obj b hb
 exact qC7 (qC3 (qB6 e) hT)
theorem zsub:∀ b∈[z,TO,i1,i2],b∈[z,TI,TO,i1,i2]:=allC (by simp) (allC (by simp) (allC (by simp) (allC (by simp) allN)))
inductive ZFX (b1 b2:Bool) (X:Cx) (s:Shared) (H:Hp) (l1 l2:Addr) (i:Nat):Prop
 | mk (xs ys:List V) (x y:V) (t1 t2:List Value) (u1 u2:Value) (q1:SqX b1 X.K H l1 xs) (q2:SqX b2 X.K H l2 ys) (ex:xs[i]?=some x) (ey:ys[i]?=some y) (p1:IsX b1 s.heap l1 t1.toArray) (p2:IsX b2 s.heap l2 t2.toArray)
  (e1:t1[i]?=some u1) (e2:t2[i]?=some u2) (r1:RelV x u1) (r2:RelV y u2)
variable {X:Cx}{pins:List (Addr × Obj)}{σ:St}{H:Hp}{s:Shared}
theorem zfX (I:Inv X pins σ H s) (hg:ZgoX b1 b2 X.K H l1 l2 i):ZFX b1 b2 X s H l1 l2 i:=by
 obtain ⟨xs,ys,x,y,q1,q2,ex,ey⟩:=hg
 obtain ⟨its1,r1,p1⟩:=I.sqX q1
 obtain ⟨its2,r2,p2⟩:=I.sqX q2
 obtain ⟨u1,e1,ru1⟩:=r1.get ex
 obtain ⟨u2,e2,ru2⟩:=r2.get ey
 exact ⟨xs,ys,x,y,its1,its2,u1,u2,q1,q2,ex,ey,p1,p2,e1,e2,ru1,ru2⟩
theorem zvX {t1 t2:List Value}{u1 u2:Value}{vals:Array Value} (e1:t1[i]?=some u1) (e2:t2[i]?=some u2) (hv:∃ v1 v2,t1.toArray[i]?=some v1∧t2.toArray[i]?=some v2∧vals=#[v1,v2]):vals=#[u1,u2]:=by
 obtain ⟨v1,v2,g1,g2,rfl⟩:=hv
 rw [qD3,e1] at g1
 rw [qD3,e2] at g2
 cases g1; cases g2; rfl
theorem zyX (I:Inv X pins σ H s) {xs ys:List V}{x y:V} (q1:SqX b1 X.K H l1 xs) (q2:SqX b2 X.K H l2 ys) (ex:xs[i]?=some x) (ey:ys[i]?=some y) {T:Addr} (xs' ys':List V) (x' y':V) (s1:SqX b1 X.K H l1 xs') (s2:SqX b2 X.K H l2 ys') (t1:xs'[i]?=some x') (t2:ys'[i]?=some y'):upd H T (.tup [x,y])=upd H T (.tup [x',y']):=by
 have h1:=I.sqX_inj q1 s1
 have h2:=I.sqX_inj q2 s2
 subst h1 h2
 rw [ex] at t1; rw [ey] at t2
 cases t1; cases t2; rfl
end
theorem zM1 {P:Program}{w:World}{K:PySem.W.Frag}{elts:List Expr}{k:Nat}{pos:Pos} (b1 b2:Bool) (z TI TO i1 i2 l1 l2:Addr) (D:ZAp z TI TO i1 i2 [i1,l1] [i2,l2]) (d1:l1≠i1) (d2:l2≠i2) :
  Turn P w K (.Tuple elts k pos) (ItzX b1 b2 K l1 l2) [z,TI,TO,i1,i2] z (ZsX b1 b2 z TI TO i1 i2 l1 l2) where
 mem:=by simp
 obj:=fun i h st=>st.obj
 keep:=fun i h h' ⟨a1,a2,⟨x,y,a3⟩,a4,a5⟩ kk =>
  ⟨kk z (by simp) _ a1,kk TI (by simp) _ a2,⟨x,y,kk TO (by simp) _ a3⟩,a4.keep fun o e=>kk i1 (by simp) o e,a5.keep fun o e=>kk i2 (by simp) o e⟩
 item:=by
  intro X hP hw hK hc i pins s σ H E I hf st hg
  subst hP hw hK
  obtain ⟨xs,ys,x,y,its1,its2,u1,u2,q1,q2,ex,ey,p1,p2,e1,e2,ru1,ru2⟩:=zfX I hg
  have W:=WalksT.zipD (prog:=X.prog) (w:=X.w) (I.ok.hd hc) (fun A hh=>zGr b1 hh i1 l1 d1 its1.toArray) (fun A hh=>zGr b2 hh i2 l2 d2 its2.toArray) D (by simp) (by simp)
  have hl1:i<its1.length:=(qA1.mp e1).1
  have hl2:i<its2.length:=(qA1.mp e2).1
  have hwr:∀ b∈[z,TO,i1,i2],FpOk X pins H b:=fun b hb=>hf b (zsub b hb)
  refine W.item i s _ _ (by simp only [qA8]; omega) ⟨st.a1,st.a2,st.a3,⟨st.a4,p1⟩,st.a5,p2⟩ fun T vals h' tk hv hT hIs hM kk=>?_
  have hvv:=zvX e1 e2 hv
  subst hvv
  have nT:=st.ne hT
  refine ⟨_,rfl,W.go _ _ _ i T { s with heap:=h',toks:=tk } _ _ hM fun h2 st2 kk2=>?_⟩
  have I1:Inv X pins σ (upd H T (.tup [x,y])) { s with heap:=h',toks:=tk }:=I.yields (its:=[u1,u2]) hwr kk hT (.cons ru1 (.cons ru2 .nil)) (by show 2≤sizeLine; decide) hIs
  have I2:=I1.turnedL (tk:=tk) (zQb hwr fun b hb=>nT b (zsub b hb)) kk2
  exact ⟨.ref T,_,I2,rfl,⟨T,I.hok.fresh hT,rfl,zyX I q1 q2 ex ey⟩,⟨st2.1,st2.2.1,st2.2.2.1,st2.2.2.2.1.1,st2.2.2.2.2.1⟩,fun b hb=>by rw [zAa (nT b hb)]; exact (hf b hb).1⟩
 done:=by
  intro X hP hw hK hc i pins s σ H E I hf st hg
  subst hP hw hK
  obtain ⟨xs,ys,q1,q2,ei⟩:=hg
  obtain ⟨its1,r1,p1⟩:=I.sqX q1
  obtain ⟨its2,r2,p2⟩:=I.sqX q2
  have W:=WalksT.zipD (prog:=X.prog) (w:=X.w) (I.ok.hd hc) (fun A hh=>zGr b1 hh i1 l1 d1 its1.toArray) (fun A hh=>zGr b2 hh i2 l2 d2 its2.toArray) D (by simp) (by simp)
  have en:i=min its1.toArray.size its2.toArray.size:=by simp only [qA8,← r1.length,← r2.length]; exact ei
  refine W.done s _ _ (by rw [← en]; exact ⟨st.a1,st.a2,st.a3,⟨st.a4,p1⟩,st.a5,p2⟩) fun h' tk kk=>?_
  exact ⟨rfl,I.turnedL (fun b hb=>hf b (zsub b hb)) kk⟩
 self:=fun _ _ _ _ _ st h=>wpAny_pyIter_zip st.a1 h
section
variable {X:Cx}
noncomputable def zUw (K:W.Frag) (ta:TA):TI:=fun σ H R=>ta σ H fun vs H1=>∃ a b b1 b2,vs=[.ref a,.ref b]∧(∃ xs,SqX b1 K H1 a xs)∧(∃ ys,SqX b2 K H1 b ys)∧R (ItzX b1 b2 K a b) H1
theorem zRi {elts:List Expr}{k:Nat}{tpos:Pos}{a b:Expr}{ta:TA}{p pos:Pos} (hg:Gl X "zip") (hm:X.mg "zip"=none) (ha:PA X [a,b] ta) (hs:starEach [a,b] X.env=[(false,eval a X.env),(false,eval b X.env)]:=by rfl) (hs2:starEach [b] X.env=[(false,eval b X.env)]:=by rfl) :
  PI X (.Tuple elts k tpos) (.Call (.Name "zip" p) [a,b] [] pos) (zUw X.K ta):=by
 intro pins s σ H R I h
 refine Call_ (zF8 I hg hm zUY (PyProof.Rows.callWith_type1 (thn (ha pos pins s σ H _ I h) fun us s1 ⟨vs,H1,I1,r1,q1⟩=>?_) (by rw [hs,hs2]) (by rw [hs2]; rfl)))
 obtain ⟨l1,l2,b1,b2,e,⟨xs,h1⟩,⟨ys,h2⟩,q⟩:=q1
 subst e
 cases r1 with
 | cons r rr =>
  cases rr with
  | cons r' rr =>
   cases rr
   cases r
   cases r'
   obtain ⟨its1,v1,p1⟩:=I1.sqX h1
   obtain ⟨its2,v2,p2⟩:=I1.sqX h2
   refine zNU p1 p2 fun h' hz hTI hTO hi1 hi2 hk=>?_
   refine wpAny_pyIter_zip hz ?_
   have I2:Inv X pins σ H1 { s1 with heap:=h' }:=I1.kept (t':=s1.toks) hk
   refine ⟨_,_,_,_,H1,rfl,I2,zM1 b1 b2 _ _ _ _ _ l1 l2 (zQn p1.lt p2.lt) (qC7 p1.lt) (qC7 (qG3 p2.lt)),⟨hz,hTI,⟨_,_,hTO⟩,hi1,hi2⟩,fun b hb=>?_,q⟩
   have hle:s1.heap.objs.size≤b:=by
    simp only [qB9,qJ9,or_false] at hb
    rcases hb with rfl | rfl | rfl | rfl | rfl
    ·exact qL9 _ _
    ·exact qL9 _ _
    ·exact qL9 _ _
    ·exact qB0 _
    ·exact qL9 _ _
   exact I1.fpOk hle (I1.hok.fresh hle)
end
open PySem PySem.Spec PyProof.Rows
section
variable {X:Cx}{pins:List (Addr × Obj)}{σ:St}{H:Hp}{s:Shared}{scope:Scope}{N:List Str}{C:Addr}{ex:List Addr}
theorem zKZ {elt iter tg:Expr}{ifs:List Expr}{pos pos' spos:Pos}{y0:Str}{go:TG} (hgo:PG X (.Name y0 pos') go) (hsw:swapsWith (.ListComp elt [⟨tg,iter,ifs,0⟩] scope pos) (some (.Name y0 pos')) spos.line X.env=pure true) {wi:TI}{g:TG}{tc:TT}{te:TE}{k:Nat}{js:List Nat}
  (B:zLQ X scope N k js) (hi:PI X tg iter wi)
  (hg:∀ cl s H C ex,PG (zBe X scope N cl s H C ex) tg g) (htc:∀ cl s H C ex,PTs (zBe X scope N cl s H C ex) ifs tc) (hte:∀ cl s H C ex,PE (zBe X scope N cl s H C ex) elt te)
  (hs:∀ x,foldedSetIterable iter X.env x=pure x:=by intro _; rfl):PS X (.Assign [.Name y0 pos'] (.ListComp elt [⟨tg,iter,ifs,0⟩] scope pos) spos) (tAsg (zQz wi k js g tc te) go):=by
 intro pins s σ H D0 I h
 rw [exec_Assign_Name_used _ _ _ _ hsw]
 refine wpAny_bind (wpAny_standAt (wpAny_bind ?_))
 show wpAny _ X.A (do let _ ← comprehension (.ListComp elt [⟨tg,iter,ifs,0⟩] scope pos) scope X.env _ (newList []) false (eval iter X.env) (some (assign (.Name y0 pos') X.env))) _ _ s
 refine wpAny_bind (wpAny_mono (wpAny_comprehension_free (use:=some (assign (.Name y0 pos') X.env)) (Q:=fun _ s'=>SP X pins D0 .next s') rfl hs (zE0 fun x hx=>I.ok.has x (B.free x hx)) B.kind B.names (thn (hi pins s σ H _ I h) fun v s1 h1=>thn h1 fun itv s2 h2=>?_)) (fun _ s' hq=>wpAny_pure (wpAny_pure hq)) fun _ _ e=>e)
 obtain ⟨it,fp,tn,J,H2,e,I2,T,st2,f2,hW⟩:=h2
 subst e
 refine zKD (Q:=fun x H1=>go x σ H1 D0.nx) B I2 T st2 f2 hg htc hte hW fun cl C H4 s5 hCle hDC I5 q=>?_
 obtain ⟨m,hn,_⟩:=id I5.loc
 have hC4:H4 C=none:=I5.free
 have IA:Inv X pins σ H4 s5:=I2.call' (s':=s5) (ch:=fp) I5.os I5.base I5.hok I5.bare (fun b hb=>⟨(f2 b hb).2.2.2.1,(f2 b hb).2.1,(f2 b hb).2.2.2.2.1,(f2 b hb).2.2.2.2.2⟩)
 have fC:∀ {H':Hp},H' C=none→∀ b∈[C],FpOk X pins H' b:=fun hn b hb=>by
  have:b=C:=by simpa using hb
  subst this
  exact I2.fpOk hCle hn
 have oC:∀ b∈[C],∃ o,s5.heap.get? b=some o∧∀ v,o.data≠.cell v:=fun b hb=>by
  have:b=C:=by simpa using hb
  subst this
  obtain ⟨o,_,_,ho,hd,_⟩:=id hn
  exact ⟨o,ho,fun v z=>by rw [hd] at z; cases z⟩
 have IB:=IA.pinned (fC hC4) oC
 refine thn (hgo _ s5 σ H4 (.ref s2.heap.objs.size) (.ref s2.heap.objs.size) _ IB rfl q) fun _ s6 ⟨σ6,H6,I6,q6⟩=>?_
 obtain ⟨oc,hoc,_⟩:=oC C (by simp)
 have hp6:=I6.pin (C,oc) (qC6 _ (qC6 _ (zCu (by simp) hoc)))
 refine ⟨m,hn.at' fun o e=>?_,fun h' hs'=>⟨σ6,H6,?_,q6⟩⟩
 ·have e':s5.heap.get? C=some o:=e
  rw [hoc] at e'; cases e'; exact hp6.1
 ·exact I6.unpinned.turnedL (wr:=[C]) (tk:=s6.toks) (fC hp6.2.1) fun b o nb e=>hs'.extBut b o (by simpa using nb) e
end
open PySem PySem.Spec PyProof.Rows
section
variable {X:Cx}
theorem zGt (hg:X.A.guards=some []) (hu:X.A.units+64<cLine):zAV X (.builtin "repr") (fun xs H Q=>∃ (p:Addr) (N:Addr→Prop) (d:PyData),xs=[.ref p]∧Rp X.K H N (.ref p) d∧d.showable=true∧d.hasDict=false∧d.depth≤60∧d.shown.length≤sizeLine∧Q (.str d.shown) H):=by
 intro pins s σ H xs us Q I rv h
 obtain ⟨p,N,d,rfl,hd,hs,hh,hp,hz,q⟩:=h
 obtain ⟨u,rfl,ru⟩:=rv.one
 cases ru
 obtain ⟨as,r⟩:=I.reads hd rfl
 exact repr_of_reads' r hs (fun z=>by rw [hh] at z; cases z) hg (by omega) (fun b o e=>e) (fun h' u tk hk=>⟨.str d.shown,H,I.kept (t':=tk) hk,⟨u,rfl⟩,q⟩) hz
theorem zLE:zAV X (.builtin "repr") (fun xs H Q=>∃ i:Int,xs=[.int i]∧i.natAbs.log2<1920∧Q (.str (toString i)) H):=by
 intro pins s σ H xs us Q I rv h
 obtain ⟨i,rfl,hl,q⟩:=h
 obtain ⟨u,rfl,ru⟩:=rv.one
 obtain ⟨t,rfl⟩:=ru
 exact PySem.P.repr_of_int hl ⟨.str (toString i),H,I.kept (t':=s.toks+1) fun b o e=>e,⟨_,rfl⟩,q⟩
open AutoSeq1 in
theorem zUH (l:Addr) (items:Array Value) (n:Nat) (b:Addr) (items2:Array Value) (n2:Nat) (dct:Option Addr) (sl:Array (Option Value)) (h0:¬(!items.isEmpty&&Builtin.List.listTooLong (items.size+items2.size))=true) (h1:items.size≤sizeLine) (h2:items.size+items2.size≤sizeLine+1) :
  Meets (Builtin.«list.extend» ⟨[.ref l,.ref b],[]⟩) (fun _ R s=>s.heap.get? l=some { cls:=.type "list",dict:=none,data:=.seq items n,slots:=#[] }∧s.heap.get? b=some { cls:=.type "tuple",dict:=dct,data:=.seq items2 n2,slots:=sl } ∧
   R (.ok (.ret Value.none)) { s with heap:=s.heap.update l (Obj.mapSeq fun x=>x++items2),toks:=s.toks }) :=
 .of_wp fun prog w A R s h=>by
  obtain ⟨hp,g,d,tk,os⟩:=s; obtain ⟨hl,hb,h⟩:=h
  have a1:=idx_int
  have a2:=AutoSeq1.sub_tuple_tuple
  have a3:=AutoSeq1.sub_list_list
  have a4:=AutoSeq1.sub_tuple_list
  have a5:=AutoSeq1.sub_list_tuple
  have hz:(items++items2).size≤sizeLine+1:=by rw [Array.size_append]; exact h2
  wp_walk using (wpAny_updateSeq hl rfl (hz:=h1) (_hz':=hz)),wpAny_loadPart' hl,wpAny_loadPart' hb
  exact ⟨_,rfl,h⟩
noncomputable def zWg (K:W.Frag):V→List V→Hp→VK→Prop:=fun x vs H Q=>∃ l b xs zs,x=.ref l∧vs=[.ref b]∧H l=some (.lst xs)∧SqT K H b zs∧xs.length+zs.length≤sizeLine∧Q .non (upd H l (.lst (xs++zs)))
theorem zRz:MtM X "list.extend" (zWg X.K):=by
 intro pins s σ H x vs v us Q I rx rv h
 obtain ⟨l,b,xs,zs,rfl,rfl,hH,hB,hz,q⟩:=h
 cases rx
 obtain ⟨u,rfl,ru⟩:=rv.one
 cases ru
 obtain ⟨z,its,n,r,hl,e⟩:=I.lstM hH
 obtain ⟨its2,r2,⟨⟨c,dct,dt,sl⟩,e2,hc,n2,hd⟩,_⟩:=I.tuple hB
 replace hc:c=.type "tuple":=hc
 replace hd:dt=.seq its2.toArray n2:=hd
 subst hc hd
 have l2:zs.length=its2.length:=r2.length
 have hsz:its.toArray.size+its2.toArray.size≤sizeLine:=by rw [qA8,qA8]; omega
 have hlong:¬ (!its.toArray.isEmpty&&Builtin.List.listTooLong (its.toArray.size+its2.toArray.size))=true:=by
  rw [zKg hsz,qT3]
  exact qB1
 refine call_meets PySem.F.slot_list_extend ⟨_,e,rfl⟩ PySem.F.entry_list_extend (PySem.F.args_list_extend_2 _ _)
  (zUH l its.toArray n b its2.toArray n2 dct sl hlong (by rw [qA8]; omega) (by omega)) ⟨e,e2,?_⟩
 refine ⟨.non,_,I.lset (its':=its++its2) hH e (by simp) (r.append r2) ?_,rfl,q⟩
 rw [qB2]
 omega
end
open PySem PySem.Spec PyProof.Rows
abbrev zVf (h:Heap) (T:Addr) (a b c:Value):Prop:=h.get? T=some { cls:=.type "tuple",data:=.seq #[a,b,c] }
structure ZAp3 (z TI TO i1 i2 i3:Addr) (f1 f2 f3:List Addr):Prop where
 TIz:TI≠z
 TOz:TO≠z
 i1z:i1≠z
 i2z:i2≠z
 i3z:i3≠z
 TITO:TI≠TO
 TIi1:TI≠i1
 TIi2:TI≠i2
 TIi3:TI≠i3
 TOi1:TO≠i1
 TOi2:TO≠i2
 TOi3:TO≠i3
 z1:z∉f1
 z2:z∉f2
 z3:z∉f3
 O1:TO∉f1
 O2:TO∉f2
 O3:TO∉f3
 a12:i1∉f2
 a13:i1∉f3
 a21:i2∉f1
 a23:i2∉f3
 a31:i3∉f1
 a32:i3∉f2
inductive Zgo3 (K:W.Frag) (H:Hp) (a b c:Addr) (i:Nat):Prop
 | mk (xs ys us:List V) (x y u:V) (q1:SqL K H a xs) (q2:SqT K H b ys) (q3:SqT K H c us) (ex:xs[i]?=some x) (ey:ys[i]?=some y) (eu:us[i]?=some u)
inductive Zst3 (K:W.Frag) (H:Hp) (a b c:Addr) (i:Nat):Prop
 | mk (xs ys us:List V) (q1:SqL K H a xs) (q2:SqT K H b ys) (q3:SqT K H c us) (ei:i=min xs.length (min ys.length us.length))
structure Zs3 (z TI TO i1 i2 i3 l1 l2 l3:Addr) (i:Nat) (h:Heap):Prop where
 a1:IsZip h z TI TO .none
 a2:zVf h TI (.ref i1) (.ref i2) (.ref i3)
 a3:∃ a b c,zVf h TO a b c
 a4:ItX false h i1 l1 i
 a5:ItX true h i2 l2 i
 a6:ItX true h i3 l3 i
section
variable {z TI TO i1 i2 i3 l1 l2 l3:Addr}{i:Nat}{h:Heap}
theorem Zs3.obj (st:Zs3 z TI TO i1 i2 i3 l1 l2 l3 i h):∀ b∈[z,TI,TO,i1,i2,i3],∃ o,h.get? b=some o∧∀ v,o.data≠.cell v:=by
 obtain ⟨_,_,_,a3⟩:=st.a3
 exact allC ⟨_,st.a1,fun v q=>by cases q⟩ (allC ⟨_,st.a2,fun v q=>by cases q⟩ (allC ⟨_,a3,fun v q=>by cases q⟩ (allC st.a4.obj (allC st.a5.obj (allC st.a6.obj allN)))))
theorem Zs3.ne (st:Zs3 z TI TO i1 i2 i3 l1 l2 l3 i h) {T:Addr} (hT:h.objs.size≤T):∀ b∈[z,TI,TO,i1,i2,i3],b≠T:=fun b hb=>by
 obtain ⟨o,e,_⟩:=st.obj b hb
 exact qC7 (qC3 (qB6 e) hT)
inductive ZF3 (X:Cx) (s:Shared) (H:Hp) (l1 l2 l3:Addr) (i:Nat):Prop
 | mk (xs ys us:List V) (x y u:V) (t1 t2 t3:List Value) (u1 u2 u3:Value) (q1:SqL X.K H l1 xs) (q2:SqT X.K H l2 ys) (q3:SqT X.K H l3 us) (ex:xs[i]?=some x) (ey:ys[i]?=some y) (eu:us[i]?=some u)
  (p1:IsX false s.heap l1 t1.toArray) (p2:IsX true s.heap l2 t2.toArray) (p3:IsX true s.heap l3 t3.toArray) (e1:t1[i]?=some u1) (e2:t2[i]?=some u2) (e3:t3[i]?=some u3) (r1:RelV x u1) (r2:RelV y u2) (r3:RelV u u3)
variable {X:Cx}{pins:List (Addr × Obj)}{σ:St}{H:Hp}{s:Shared}
end
open PySem PySem.Spec PyProof.Rows
section
variable {X:Cx}
theorem Vals.rev {xs:List V}{us:List Value} (r:Vals xs us):Vals xs.reverse us.reverse:=by
 induction r with
 | nil=>exact .nil
 | cons r t ih=>rw [qL0,qL0]; exact ih.append (.cons r .nil)
theorem zFc:∀ {us:List Value}{ns:List Int},IntsAre us ns→Vals (ns.map V.int) us
 | _,_,h=>by
  induction h with
  | nil=>exact .nil
  | cons _ _ _ ih=>exact .cons ⟨_,rfl⟩ ih
theorem zIm:zAV X (.builtin "sorted") (fun vs H Q=>∃ (p:Addr) (ns:List Int),vs=[.ref p]∧SqL X.K H p (ns.map V.int)∧ns.length<64∧∀ (l:Addr) (ms:List Int),H l=none→ms.Perm ns→ms.Pairwise (·≤·)→Q (.ref l) (upd H l (.lst (ms.map V.int)))):=by
 intro pins s σ H xs us Q I r h
 obtain ⟨p,ns,rfl,hq,hn,q⟩:=h
 obtain ⟨u,rfl,ru⟩:=zCP r
 cases ru
 obtain ⟨its,rv,pl,hz⟩:=I.list hq
 have hlen:=rv.length
 rw [qA2] at hlen
 refine sorted_ints pl.isList (zEm rv) (by omega) fun out ns' h1 h2 h3=>?_
 obtain ⟨e,he⟩:=sortedAll_at s.heap its out
 have hl:ns'.length=ns.length:=h2.length_eq
 refine ⟨.ref (s.heap.objs.size+1),_,I.laid (t':=s.toks) (o:=.lst (ns'.map V.int)) (fun b o e=>sortedAll_old e) (qN6 _) ?_,rfl,q _ _ (I.hok.fresh (qN6 _)) h2 h3⟩
 exact ⟨by rw [qA2,hl]; exact qC5 (qG7 hn) (by decide),out.toList,e,zFc h1,by simpa [seqObj] using he⟩
theorem zG3 {A:Around}{prog:Program}{w:World}{ns:List Int}{its:List Value} (r:Vals (ns.map V.int) its):TruthOf prog w A (fun i v=>its.toArray[i]?=some v) (fun i=>(ns.map (· != 0)).getD i false):=by
 intro i v s Q E hv hq
 have hv':its[i]?=some v:=by simpa using hv
 have hl:i<ns.length:=by
  have h1:=(qA1.mp hv').1
  have h2:=r.length
  rw [qA2] at h2
  omega
 obtain ⟨u,e,ru⟩:=Vals.get r (i:=i) (x:=.int ns[i]) (by rw [qB7,qA6 hl]; rfl)
 rw [e] at hv'
 cases hv'
 obtain ⟨t,rfl⟩:=ru
 have eq:(ns.map (· != 0)).getD i false=(ns[i] != 0):=by simp [qT6,hl]
 have hq':Q ((ns.map (· != 0)).getD i false) s:=hq
 rw [eq] at hq'
 exact PyProof.Rows.truthy_int hq'
theorem zNZ (hc:X.calm=true):zAV X (.builtin "all") (fun vs H Q=>∃ (p:Addr) (ns:List Int),vs=[.ref p]∧SqT X.K H p (ns.map V.int)∧Q (.bl (ns.all (· != 0))) H):=by
 intro pins s σ H xs us Q I r h
 obtain ⟨p,ns,rfl,hq,q⟩:=h
 obtain ⟨u,rfl,ru⟩:=zCP r
 cases ru
 obtain ⟨its,rv,pl,hz⟩:=I.tuple hq
 have pl':s.heap.IsTuple p its.toArray:=pl
 have hlt:p<s.heap.objs.size:=by obtain ⟨_,e,_⟩:=pl'; exact qB6 e
 have hlen:=rv.length
 rw [qA2] at hlen
 refine call_all_walk (wpAny_pyIter_tuple pl' ?_)
 refine ⟨s.heap.objs.size,_,[s.heap.objs.size],_,_,_,_,rfl,Walks.tuple (A:=X.A.in1) (show X.A.in1.handled=none from I.ok.hd hc) s.heap.objs.size p (qC7 hlt) its.toArray,⟨⟨_,qB4 _ rfl,rfl,rfl⟩,pl'.push _⟩,zG3 rv,fun h' tk kk=>?_⟩
 have e:(List.range its.toArray.size).all (fun i=>(ns.map (· != 0)).getD i false)=ns.all (· != 0):=by rw [qA8,← hlen,show ns.length=(ns.map (· != 0)).length by simp,zHH,qK9]; rfl
 rw [e]
 refine ⟨.bl (ns.all (· != 0)),H,?_,rfl,q⟩
 exact I.kept (t':=tk) fun b o eb=>kk b o (by simp only [qA9]; exact qC7 (qB6 eb)) (qA5 _ eb)
theorem zNX (hc:X.calm=true):zAV X (.builtin "any") (fun vs H Q=>∃ (p:Addr) (ns:List Int),vs=[.ref p]∧SqT X.K H p (ns.map V.int)∧Q (.bl (ns.any (· != 0))) H):=by
 intro pins s σ H xs us Q I r h
 obtain ⟨p,ns,rfl,hq,q⟩:=h
 obtain ⟨u,rfl,ru⟩:=zCP r
 cases ru
 obtain ⟨its,rv,pl,hz⟩:=I.tuple hq
 have pl':s.heap.IsTuple p its.toArray:=pl
 have hlt:p<s.heap.objs.size:=by obtain ⟨_,e,_⟩:=pl'; exact qB6 e
 have hlen:=rv.length
 rw [qA2] at hlen
 refine call_any_walk (wpAny_pyIter_tuple pl' ?_)
 refine ⟨s.heap.objs.size,_,[s.heap.objs.size],_,_,_,_,rfl,Walks.tuple (A:=X.A.in1) (show X.A.in1.handled=none from I.ok.hd hc) s.heap.objs.size p (qC7 hlt) its.toArray,⟨⟨_,qB4 _ rfl,rfl,rfl⟩,pl'.push _⟩,zG3 rv,fun h' tk kk=>?_⟩
 have e:(List.range its.toArray.size).any (fun i=>(ns.map (· != 0)).getD i false)=ns.any (· != 0):=by rw [qA8,← hlen,show ns.length=(ns.map (· != 0)).length by simp,zHG,qR2]; rfl
 rw [e]
 refine ⟨.bl (ns.any (· != 0)),H,?_,rfl,q⟩
 exact I.kept (t':=tk) fun b o eb=>kk b o (by simp only [qA9]; exact qC7 (qB6 eb)) (qA5 _ eb)
end
open PySem PySem.Spec PyProof.Rows
section
variable {prog:Program}{w:World}{K:Type} [DecidableEq K] {knd:HeapKind prog w K}{A:Around}{E:Value→Shared→Prop}{s:Shared}
theorem zQP {d a:Addr}{xs:List (K × Addr × Value)}{k:K}{dv:Value}{Q:Value→Shared→Prop} (hu:knd.room A) (hk:knd.is s.heap k a) (hm:s.heap.DictOfH knd d xs) (hz:xs.length≤sizeLine)
  (hin:∀ p,atKey xs k=some p→Q p.2 { s with toks:=s.toks+knd.draws k })
  (hout:atKey xs k=none→∀ h',h'.DictOfH knd d (xs++[(k,a,dv)])→qE2 d s.heap h'→Q dv { s with heap:=h',toks:=s.toks+knd.draws k }) :
  wpAny (model prog w) A (dictSetDefault d (.ref a) dv) Q E s:=by
 obtain ⟨o,es,ep,ho,hc,hd,he,his,hn⟩:=hm
 unfold dictSetDefault
 try with_reducible refine wpAny_holding ?_
 refine wpAny_bind (knd.pyHash hu hk (wpAny_bind (wpAny_dictFind_heap (s:={ s with toks:=s.toks+knd.draws k }) hu hk ho hd he his hn (fun no=>?_) fun j p hj=>?_)))
 ·have k0:=atKey_none_of_get no
  have kn:=not_mem_keys_of_get no
  refine wpAny_bind (wpAny_rule (wpAny_bind (wpAny_updateDictKeys (hz:=by rw [size_of_entries he]; exact hz) (s:={ s with toks:=s.toks+knd.draws k }) ho hd (wpAny_pure (hout k0 _ ?_ (qE2.update ..))))))
  have dd:=Obj.data_mapDictKeys hd (·.push ⟨knd.hash k,Value.ref a,dv⟩)
  refine ⟨_,_,ep+1,qH8 _ ho (Obj.isFreed_of_dict dd),hc.mapDictKeys _,dd,by simp [he,entryOfKey],fun x hx=>?_,?_⟩
  ·have kp:knd.is s.heap x.1 x.2.1:=by
    rcases qB3.mp hx with q | q
    ·exact his x q
    ·cases qA9.mp q; exact hk
   exact knd.keeps kp ho hd (qE2.update ..)
  ·rw [qE0,qF5]
   exact ⟨hn,by simp,fun x hx y hy z=>kn (by simp at hy; rw [← hy,← z]; exact hx)⟩
 ·refine wpAny_bind (wpAny_dictEntries (s:={ s with toks:=s.toks+knd.draws k }) ho hd ?_)
  rw [entry_at he j,hj]
  exact wpAny_bind (wpAny_rule (wpAny_pure (hin p (atKey_of_get hn hj))))
theorem zHQ (d a:Addr) (dv:Value) (lo:(d == sysModules)=false):MeetsIn prog w (Builtin.«dict.setdefault» ⟨[.ref d,.ref a,dv],[]⟩) (fun A R s=>knd.room A.in1∧∃ k xs,knd.is s.heap k a∧s.heap.DictOfH knd d xs∧xs.length≤sizeLine ∧
   (∀ p,atKey xs k=some p→R (.ok (.ret p.2)) { s with toks:=s.toks+knd.draws k }) ∧
   (atKey xs k=none→∀ h',h'.DictOfH knd d (xs++[(k,a,dv)])→qE2 d s.heap h'→R (.ok (.ret dv)) { s with heap:=h',toks:=s.toks+knd.draws k })) :=
 .of_wp fun A R s ⟨hu,k,xs,hk,hm,hz,h1,h2⟩=>by
  unfold Builtin.«dict.setdefault» Builtin.Dict.keyAndDefault
  refine wpAny_bind (wpAny_bind (wpAny_notOrdered_dict hm.typeIs (wpAny_pure ?_)))
  show wpAny _ _ (if (d == sysModules)=true then _ else (dictSetDefault d (.ref a) dv >>= _)) _ _ s
  rw [if_neg (by rw [lo]; exact qB1)]
  exact wpAny_bind (zQP hu hk hm hz (fun p e=>wpAny_pure ⟨_,rfl,h1 p e⟩) fun e h' a1 a2=>wpAny_pure ⟨_,rfl,h2 e h' a1 a2⟩)
end
section
variable {X:Cx}{pins:List (Addr × Obj)}{σ:St}{H:Hp}{s:Shared}
theorem Inv.dTnil {a:Addr} (I:Inv X pins σ H s) (e:H a=some (.dK [])):Inv X pins σ (upd H a (.dT [])) s:=by
 obtain ⟨z,hd,vs,r,o,es,ep,h1,h2,h3,h4,h5,h6⟩:=zNA I.hok e
 have v0:vs=[]:=by cases r; rfl
 subst v0
 have e0:es.toList=[]:=by
  have:=h5.length
  exact qE6.mp (by simpa using this)
 refine I.write (x:=a) (e:=a) (h':=s.heap) (t':=s.toks) (by rw [e]; exact True.intro) (.inl rfl) (fun b u _ q=>q) ⟨o,h1⟩ ?_
 exact ⟨qE1 _,hd,[],.nil,o,es,ep,h1,h2,h3,by simpa using e0,qN1⟩
noncomputable def zR1:V→List V→Hp→VK→Prop:=fun x vs H Q=>∃ a b kvs k z,x=.ref a∧vs=[.ref b,z]∧H b=some (.tup (k.map kV))∧(H a=some (.dT kvs)∨(kvs=[]∧H a=some (.dK []))) ∧
 (∀ v,valV kvs k=some v→Q v H)∧(valV kvs k=none→kvs.length<sizeLine∧Q z (upd H a (.dT (kvs++[(k,z)]))))
theorem zG7 {a b:Addr}{kvs:List (List Key × V)}{k:List Key}{z:V}{u:Value}{Q:VK} (hu:X.A.units+1<cLine) (I:Inv X pins σ H s) (hb:H b=some (.tup (k.map kV))) (ha:H a=some (.dT kvs)) (rz:RelV z u)
  (h1:∀ v,valV kvs k=some v→Q v H) (h2:valV kvs k=none→kvs.length<sizeLine∧Q z (upd H a (.dT (kvs++[(k,z)])))):wpAny (model X.prog X.w) X.A (call (.builtin "dict.setdefault") [.ref a,.ref b,u]) (EP X pins σ Q) X.xe s:=by
 obtain ⟨z0,lo,xs,rel,dd⟩:=zUK I.hok ha
 have hz:xs.length≤sizeLine:=by rw [← Paired.length rel]; exact z0
 refine call_meetsIn PySem.F.slot_dict_setdefault dd.typeIs PySem.F.entry_dict_setdefault (PySem.F.args_dict_setdefault_3 _ _ _) (zHQ (knd:=tupleKind (zAn X.prog X.w)) a b u lo)
  ⟨tupleKind_room_in1 hu,k,xs,zGh I.hok hb,dd,hz,fun p e=>?_,fun e h' d' hs=>?_⟩
 ·have q:=rel.val k
  rw [e] at q
  cases q2:valV kvs k with
  | none=>rw [q2] at q; exact False.elim q
  | some v=>rw [q2] at q; exact ⟨v,H,I.tok _,q,h1 v q2⟩
 ·have q:=rel.val k
  rw [e] at q
  have q2:valV kvs k=none:=by
   cases q2:valV kvs k with
   | none=>rfl
   | some v=>rw [q2] at q; exact False.elim q
  obtain ⟨o,es,ep,hq,g2,g3,g4,_,g5⟩:=d'
  refine ⟨z,upd H a (.dT (kvs++[(k,z)])),zFp I (by rw [ha]; exact True.intro) hs ⟨o,hq⟩ ?_,rz,(h2 q2).2⟩
  have kt:KT H (kvs++[(k,z)]) (xs++[(k,b,u)]):=Paired.snoc rel ⟨rfl,hb,rz⟩
  exact ⟨by rw [qB2]; exact (h2 q2).1,lo,_,kt.keeps fun c ys ec=>(by rw [zAa (zRx ec ha (fun z=>nomatch z))]; exact ec),o,es,ep,hq,g2,g3,g4,g5⟩
theorem zF2 (hu:X.A.units+1<cLine):MtR X "dict.setdefault" zR1:=by
 intro pins s σ H x xs v us Q I rx rs h
 obtain ⟨a,b,kvs,k,z,rfl,rfl,hb,ha,h1,h2⟩:=h
 cases rx
 obtain ⟨u1,u2,rfl,r1,r2⟩:=zKM rs
 cases r1
 rcases ha with ha | ⟨rfl,ha⟩
 ·exact zG7 hu I hb ha r2 h1 h2
 ·have I2:=I.dTnil ha
  have hb2:upd H a (.dT []) b=some (.tup (k.map kV)):=by rw [zAa (zRx hb ha (fun z=>nomatch z))]; exact hb
  exact zG7 hu I2 hb2 zAb r2 (fun v e=>by cases e) fun e=>by rw [zM0]; exact h2 e
end
open PySem PySem.Spec PyProof.Rows
def Raw (h:Heap) (d:Addr) (es:Array DictEntry) (ep:Nat):Prop:=∃ o,h.get? d=some o∧o.cls=.type "dict"∧o.data=.dict es ep
theorem Raw.at {h h':Heap}{d:Addr}{es:Array DictEntry}{ep:Nat} (x:Raw h d es ep) (e:∀ o,h.get? d=some o→h'.get? d=some o):Raw h' d es ep:=let ⟨o,ho,r⟩:=x; ⟨o,e o ho,r⟩
theorem Raw.lt {h:Heap}{d:Addr}{es:Array DictEntry}{ep:Nat} (x:Raw h d es ep):d<h.objs.size:=let ⟨_,ho,_⟩:=x; qB6 ho
open PySem PySem.Spec PyProof.Rows
section
variable {prog:Program}{w:World}{A:Around}{E:Value→Shared→Prop}{s:Shared}{z TI TO i1 i2:Addr}{f1 f2:List Addr}{n1 n2 k:Nat}{P1 P2:Nat→Value→Prop}{S1 S2:Nat→Heap→Prop}
abbrev zVe (h:Heap) (z TI TO T:Addr) (b:Bool):Prop:=h.get? z=some { cls:=.type "zip",data:=.fields #[rawInt T,.bool b,.bool false,.ref TI,.ref TO] }
inductive ZWay (z TI TO:Addr) (h:Heap):Prop
 | fresh (e:IsZip h z TI TO .none)
 | busy (T:Addr) (oT:Obj) (b:Bool) (e:zVe h z TI TO T b) (a:h.get? T=some oT) (nz:T≠z) (n1:T≠TO)
structure ZRun (z TI TO i1 i2:Addr) (S1 S2:Nat→Heap→Prop) (k:Nat) (h:Heap):Prop where
 way:ZWay z TI TO h
 ti:IsPair h TI (.ref i1) (.ref i2)
 to:∃ a b,IsPair h TO a b
 s1:S1 k h
 s2:S2 k h
end
open PySem PySem.Spec PyProof.Rows
section
variable {prog:Program}{w:World}{A:Around}{z TI TO i1 i2 d:Addr}{f1 f2:List Addr}{n1 n2:Nat}{P1 P2:Nat→Value→Prop}{S1 S2:Nat→Heap→Prop}
noncomputable abbrev TK2 (prog:Program) (w:World):=tupleKind (zAn prog w)
def DRaw (prog:Program) (w:World) (h:Heap) (d:Addr) (xs:List (List Key × Addr × Value)):Prop:=∃ o es ep,h.get? d=some o∧o.ExactDict∧o.data=.dict es ep∧es.toList=xs.map (entryOfKey (TK2 prog w))∧(xs.map (·.1)).Nodup
theorem DRaw.of {h:Heap}{xs:List (List Key × Addr × Value)} (x:h.DictOfH (TK2 prog w) d xs):DRaw prog w h d xs:=let ⟨o,es,ep,a,b,c,e,_,f⟩:=x; ⟨o,es,ep,a,b,c,e,f⟩
theorem DRaw.at {h h':Heap}{xs:List (List Key × Addr × Value)} (x:DRaw prog w h d xs) (e:∀ o,h.get? d=some o→h'.get? d=some o):DRaw prog w h' d xs:=let ⟨o,es,ep,a,r⟩:=x; ⟨o,es,ep,e o a,r⟩
theorem ZRun.frame {h h':Heap}{k:Nat} (r:ZRun z TI TO i1 i2 S1 S2 k h) (D1:Draws prog w A i1 f1 n1 P1 S1) (D2:Draws prog w A i2 f2 n2 P2 S2) (e:∀ c o,c≠d→h.get? c=some o→h'.get? c=some o) (hd:∃ o,h'.get? d=some o) (nz:d≠z) (ni:d≠TI) (no:d≠TO) (m1:d∉f1) (m2:d∉f2):ZRun z TI TO i1 i2 S1 S2 k h':=by
 obtain ⟨way,ti,⟨a,b,to⟩,s1,s2⟩:=r
 refine ⟨?_,e _ _ ni.symm ti,⟨a,b,e _ _ no.symm to⟩,D1.frame _ _ _ s1 fun c hc o q=>e c o (fun z=>m1 (z▸hc)) q,D2.frame _ _ _ s2 fun c hc o q=>e c o (fun z=>m2 (z▸hc)) q⟩
 rcases way with hz | ⟨T,oT,bb,hz,hT,n1,n2⟩
 ·exact .fresh (e _ _ nz.symm hz)
 ·by_cases q:T=d
  ·subst q
   obtain ⟨o,ho⟩:=hd
   exact .busy T o bb (e _ _ nz.symm hz) ho n1 n2
  ·exact .busy T oT bb (e _ _ nz.symm hz) (e _ _ q hT) n1 n2
structure ZAll (prog:Program) (w:World) (z TI TO i1 i2 d:Addr) (f1 f2:List Addr) (n1 n2:Nat) (P1 P2:Nat→Value→Prop) (S1 S2:Nat→Heap→Prop) (ks:List (List Key × Addr × Value)) (h0:Heap):Prop where
 D1:∀ A:Around,A.handled=none→Draws prog w A i1 f1 n1 P1 S1
 D2:∀ A:Around,A.handled=none→Draws prog w A i2 f2 n2 P2 S2
 ap:ZAp z TI TO i1 i2 f1 f2
 m1:i1∈f1
 m2:i2∈f2
 n:ks.length=min n1 n2
 p1:∀ i x q,P1 i x→ks[i]?=some q→x=.ref q.2.1
 p2:∀ i y q,P2 i y→ks[i]?=some q→y=q.2.2
 key:∀ q∈ks,(TK2 prog w).is h0 q.1 q.2.1
 fr:∀ c o,h0.get? c=some o→c≠z∧c≠TO∧c≠i1∧c≠i2∧c≠d
 nz:d≠z
 ni:d≠TI
 no:d≠TO
 d1:d∉f1
 d2:d∉f2
end
open PySem PySem.Spec PyProof.Rows
noncomputable def KRw (H:Hp):List (List Key)→List V→Prop:=Paired fun k v=>∃ a,v=.ref a∧H a=some (.tup (k.map kV))
noncomputable def zXa (kvs ps:List (List Key × V)):List (List Key × V):=ps.foldl (fun acc q=>putK acc q.1 q.2) kvs
noncomputable def stoF (zs ks:List (List Key × Addr × Value)):List (List Key × Addr × Value):=ks.foldl (fun a q=>storedH a q.1 q.2.1 q.2.2) zs
inductive zXS (H:Hp) (kvs:List (List Key × V)) (zs:List (List Key × Addr × Value)) (ps:List (List Key × V)) (u1 u2:List Value):Prop
 | mk (ks:List (List Key × Addr × Value)) (r:KT H (zXa kvs ps) (stoF zs ks)) (n:ks.length=min u1.length u2.length) (p1:∀ (i:Nat) (x:Value) (q:List Key × Addr × Value),u1[i]?=some x→ks[i]?=some q→x=.ref q.2.1) (p2:∀ (i:Nat) (y:Value) (q:List Key × Addr × Value),u2[i]?=some y→ks[i]?=some q→y=q.2.2) (k:∀ q∈ks,H q.2.1=some (.tup (q.1.map kV)))
section
variable {X:Cx}{a b:Expr}{ta:TA}{p p2 pos pos2:Pos}
theorem KRw.length {H:Hp}{kks:List (List Key)}{xs:List V} (r:KRw H kks xs):kks.length=xs.length:=Paired.length r
end
open PySem PySem.Spec PyProof.Rows
section
variable {prog:Program}{w:World}{A:Around}{E:Value→Shared→Prop}{s:Shared}{it d:Addr}{i ep:Nat}{es:Array DictEntry}
theorem zX0 {e:DictEntry}{Q:Option Value→Shared→Prop} (hit:s.heap.IsKeyIter it d i es.size ep) (hr:Raw s.heap d es ep) (hx:es[i]?=some e)
  (hQ:∀ h',h'.IsKeyIter it d (i+1) es.size ep→qE2 it s.heap h'→Q (some e.key) { s with heap:=h' }):wpAny (model prog w) A (pyNext (.ref it)) Q E s:=by
 have ty:=hit.typeIs
 obtain ⟨o,ho,hc,hd⟩:=id hit
 obtain ⟨od,hod,_,hdd⟩:=hr
 unfold pyNext
 refine wpAny_bind (wpAny_attempt (wpAny_callSpecial?_slot (name:=Str.ofString "__next__") ty F.slot_dict_keyiterator_next (wpAny_call_entry F.slot_dict_keyiterator_next ty F.entry_dict_keyiterator_next ?_ (F.args_dict_keyiterator_next_1 _))))
 refine wpAny_bind (wpAny_pure (wpAny_bind (wpAny_bind (wpAny_bind (wpAny_typeNameOfWhole_keyiter ty (wpAny_pure (wpAny_bind (wpAny_fieldsOf ho hd ?_))))))))
 have o1:Builtin.Dict_items.ownsTuple "dict_keyiterator"=false:=by decide
 have n1:¬ ((Value.ref d == Value.none)=true):=qB1
 simp only [o1,qD9,if_false]
 show wpAny _ _ (if (Value.ref d == Value.none)=true then _ else _) _ _ s
 rw [if_neg n1]
 refine wpAny_bind (wpAny_pure (wpAny_bind (wpAny_dictEntries hod hdd ?_)))
 rw [if_neg (by simp)]
 refine wpAny_bind (wpAny_pure (wpAny_bind (wpAny_dictEpoch hod hdd ?_)))
 rw [if_neg (by simp)]
 refine wpAny_pure ?_
 have n2:¬ ((i:Int)<0):=by omega
 simp only [n2,if_false,qJ6,hx]
 refine wpAny_bind (wpAny_bind (wpAny_typeNameOfWhole_keyiter ty (wpAny_pure (wpAny_bind (wpAny_isOneOf_keyiter ty ?_)))))
 show wpAny _ _ (setField (.ref it) 1 (rawInt ((i:Int)+1)) >>= _) _ _ s
 refine wpAny_bind (wpAny_setField ho hd (by simp) ?_)
 have it2:(s.heap.update it (Obj.mapFields (·.setIfInBounds 1 (rawInt ((i:Int)+1))))).IsKeyIter it d (i+1) es.size ep :=
  ⟨_,qH8 _ ho (Obj.isFreed_of_fields (Obj.data_mapFields hd _)),(Obj.cls_mapFields ..).trans hc,by rw [Obj.data_mapFields hd]; simp [rawInt]⟩
 have ty2:Shared.TypeIs { s with heap:=s.heap.update it (Obj.mapFields (·.setIfInBounds 1 (rawInt ((i:Int)+1)))) } (.ref it) "dict_keyiterator":=it2.typeIs
 refine wpAny_bind (wpAny_holding (wpAny_bind (wpAny_isOneOf_keyiter ty2 ?_)))
 show wpAny _ _ (pure e.key) _ _ _
 exact wpAny_pure (wpAny_pure ⟨_,rfl,wpAny_pure (hQ _ it2 (qE2.update ..))⟩)
theorem kend {Q:Option Value→Shared→Prop} (hh:A.handled=none) (hit:s.heap.IsKeyIter it d i es.size ep) (hr:Raw s.heap d es ep) (hx:es[i]?=none)
  (hQ:∀ h',Heap.ExtBut it s.heap h'→Q none { s with heap:=h' }):wpAny (model prog w) A (pyNext (.ref it)) Q E s:=by
 have ty:=hit.typeIs
 obtain ⟨o,ho,hc,hd⟩:=id hit
 obtain ⟨od,hod,_,hdd⟩:=hr
 unfold pyNext
 refine wpAny_bind (wpAny_attempt (wpAny_callSpecial?_slot (name:=Str.ofString "__next__") ty F.slot_dict_keyiterator_next (wpAny_call_entry F.slot_dict_keyiterator_next ty F.entry_dict_keyiterator_next ?_ (F.args_dict_keyiterator_next_1 _))))
 refine wpAny_bind (wpAny_pure (wpAny_bind (wpAny_bind (wpAny_bind (wpAny_typeNameOfWhole_keyiter ty (wpAny_pure (wpAny_bind (wpAny_fieldsOf ho hd ?_))))))))
 have o1:Builtin.Dict_items.ownsTuple "dict_keyiterator"=false:=by decide
 have n1:¬ ((Value.ref d == Value.none)=true):=qB1
 simp only [o1,qD9,if_false]
 show wpAny _ _ (if (Value.ref d == Value.none)=true then _ else _) _ _ s
 rw [if_neg n1]
 refine wpAny_bind (wpAny_pure (wpAny_bind (wpAny_dictEntries hod hdd ?_)))
 rw [if_neg (by simp)]
 refine wpAny_bind (wpAny_pure (wpAny_bind (wpAny_dictEpoch hod hdd ?_)))
 rw [if_neg (by simp)]
 refine wpAny_pure ?_
 have n2:¬ ((i:Int)<0):=by omega
 simp only [n2,if_false,qJ6,hx]
 refine wpAny_bind (wpAny_bind (wpAny_typeNameOfWhole_keyiter ty (wpAny_pure ?_)))
 refine wpAny_bind (wpAny_setField (i:=0) ho hd (by simp) ?_)
 show wpAny _ A.in1 (newExc (.type "StopIteration") [] >>= _) _ _ _
 unfold newExc newTuple
 refine wpAny_bind (wpAny_bind (wpAny_newObj_type (wpAny_bind (m:=firstArgMember _ _) (wpAny_of_eq (a:=Value.none) (by simp only [firstArgMember]; rfl) (wpAny_newObj_type ?_ (by size_fits)))) (by size_fits)))
 refine wpAny_raiseNew_none hh ?_
 refine wpAny_bind (wpAny_isInstance (T := "StopIteration") (b:=true) ⟨_,qB4 _ rfl,rfl⟩ isSubtype_stop ?_)
 exact wpAny_pure (hQ _ (((qE2.update ..).extBut.push _).push _))
theorem zPi {Q:Value→Shared→Prop} (lo:(d == sysModules)=false) (hr:Raw s.heap d es ep)
  (hQ:Q (.ref s.heap.objs.size) { s with heap:=s.heap.push { cls:=.type "dict_keyiterator",data:=.fields #[.ref d,.int 0 0,.int es.size 0,.int ep 0] } }):wpAny (model prog w) A (pyIter (.ref d)) Q E s:=by
 obtain ⟨o,ho,hc,hdat⟩:=hr
 have ty:s.TypeIs (.ref d) "dict":=⟨o,ho,hc⟩
 refine wpAny_pyIter_slot ty F.slot_dict_iter (wpAny_call_entry F.slot_dict_iter ty F.entry_dict_iter ?_ (F.args_dict_iter_1 _))
 unfold Builtin.«dict.__iter__» Builtin.Dict.dictSlotNone
 refine wpAny_bind (wpAny_bind (wpAny_notOrdered_dict ty (wpAny_bind (wpAny_pure (wpAny_pure ?_)))))
 refine wpAny_bind (wpAny_pure ?_)
 show wpAny _ _ (Builtin.Dict.showsAll d >>= _) _ _ _
 unfold Builtin.Dict.showsAll
 rw [if_neg (by rw [lo]; exact qB1)]
 refine wpAny_bind (wpAny_pure (wpAny_bind (wpAny_dictEntries ho hdat (wpAny_bind (wpAny_dictEpoch ho hdat ?_)))))
 show wpAny _ _ (newFields _ _ >>= _) _ _ _
 unfold newFields
 refine wpAny_bind (wpAny_newObj_type (wpAny_pure ⟨_,rfl,"dict_keyiterator",_,⟨_,qB4 _ rfl,rfl⟩,F.slot_dict_keyiterator_next.lookup,?_⟩))
 simpa [rawInt] using hQ
end
theorem zL1 {α β:Type}{R:α→β→Prop}{xs:List α}{ys:List β} (r:Paired R xs ys):∀ {i:Nat}{y:β},ys[i]?=some y→∃ x,xs[i]?=some x∧R x y:=by
 induction r with
 | nil=>intro i y e; simp at e
 | cons h t ih =>
  intro i y e
  cases i with
  | zero=>simp at e; subst e; exact ⟨_,rfl,h⟩
  | succ i=>exact ih (by simpa using e)
inductive FzD (X:Cx) (H:Hp) (h:Heap) (a:Addr) (o:Obj) (kvs:List (List Key × V)):Prop
 | mk (es:Array DictEntry) (ep:Nat) (xs:List (List Key × Addr × Value)) (g:h.get? a=some o) (c:o.cls=.type "dict") (d:o.data=.dict es ep) (r:KT H kvs xs) (e:es.toList=xs.map (entryOfKey (tupleKind (zAn X.prog X.w)))) (lo:(a == sysModules)=false) (z:kvs.length≤sizeLine)
open PySem PySem.Spec PyProof.Rows
def Rs (xs:Array Nat):Prop:=xs.toList.Pairwise (·<·)
theorem Rs.get {xs:Array Nat} (h:Rs xs) {i j a b:Nat} (ha:xs[i]?=some a) (hb:xs[j]?=some b) (l:i<j):a<b:=by
 rw [← Array.getElem?_toList] at ha hb
 obtain ⟨hi,rfl⟩:=qA1.mp ha
 obtain ⟨hj,rfl⟩:=qA1.mp hb
 exact qN3.mp h i j hi hj l
def Bl (xs:Array Nat) (j r:Nat):Prop:=r≤xs.size∧(∀ i a,xs[i]?=some a→i<r→a<j)∧∀ i a,xs[i]?=some a→r≤i→j≤a
theorem zHb {xs:Array Nat} (h:Rs xs) (j:Nat):∀ (n lo hi:Nat),hi - lo≤n→lo≤hi→hi≤xs.size→(∀ i a,xs[i]?=some a→i<lo→a<j)→(∀ i a,xs[i]?=some a→hi≤i→j≤a)→Bl xs j (SetTable.below.go xs j n lo hi)
 | 0,lo,hi,h1,h2,h3,h4,h5=>by
  have e:lo=hi:=by omega
  subst e
  exact ⟨h3,h4,h5⟩
 | n+1,lo,hi,h1,h2,h3,h4,h5=>by
  unfold SetTable.below.go
  split
  ·rename_i hl
   have hm:(lo+hi) / 2<xs.size:=by omega
   have hx:xs[(lo+hi) / 2]?=some xs[(lo+hi) / 2]:=Array.getElem?_eq_getElem hm
   have hg:xs.getD ((lo+hi) / 2) j=xs[(lo+hi) / 2]:=by simp [Array.getD,hm]
   simp only [hg]
   split
   ·rename_i hs
    refine zHb h j n _ hi (by omega) (by omega) h3 (fun i a ha hi2=>?_) h5
    by_cases e:i=(lo+hi) / 2
    ·subst e
     rw [hx] at ha
     cases ha
     exact hs
    ·exact qO4 (h.get ha hx (by omega)) hs
   ·rename_i hs
    refine zHb h j n lo _ (by omega) (by omega) (by omega) h4 (fun i a ha hi2=>?_)
    by_cases e:i=(lo+hi) / 2
    ·subst e
     rw [hx] at ha
     cases ha
     omega
    ·have:=h.get hx ha (by omega)
     omega
  ·have e:lo=hi:=by omega
   subst e
   exact ⟨h3,h4,h5⟩
theorem zPP {xs:Array Nat} (h:Rs xs) (j:Nat):Bl xs j (SetTable.below xs j):=by
 refine zHb h j _ 0 xs.size (by omega) (by omega) (qB0 _) (fun i a _ l=>absurd l (qT0 _)) fun i a ha l=>?_
 have:i<xs.size:=by
  rcases Nat.lt_or_ge i xs.size with g | g
  ·exact g
  ·rw [Array.getElem?_eq_none g] at ha; cases ha
 omega
theorem Bl.uniq {xs:Array Nat}{j r r':Nat} (a:Bl xs j r) (b:Bl xs j r'):r=r':=by
 obtain ⟨a1,a2,a3⟩:=a
 obtain ⟨b1,b2,b3⟩:=b
 rcases Nat.lt_trichotomy r r' with l | l | l
 ·have:=b2 r _ (Array.getElem?_eq_getElem (by omega)) l
  have:=a3 r _ (Array.getElem?_eq_getElem (by omega)) (qB0 _)
  omega
 ·exact l
 ·have:=a2 r' _ (Array.getElem?_eq_getElem (by omega)) l
  have:=b3 r' _ (Array.getElem?_eq_getElem (by omega)) (qB0 _)
  omega
theorem Rs.insert {xs:Array Nat} (h:Rs xs) {j:Nat} (hn:xs[SetTable.below xs j]?≠some j):Rs (SetTable.insertAt xs (SetTable.below xs j) j):=by
 obtain ⟨b1,b2,b3⟩:=zPP h j
 unfold Rs
 rw [SetTable.toList_insertAt]
 have e:xs.toList=xs.toList.take (SetTable.below xs j)++xs.toList.drop (SetTable.below xs j):=(qD2 _ _).symm
 have h':=h
 unfold Rs at h'
 rw [e,qC4] at h'
 obtain ⟨p1,p2,p3⟩:=h'
 have q1:∀ a∈xs.toList.take (SetTable.below xs j),a<j:=fun a ha=>by
  obtain ⟨i,hi,rfl⟩:=qP9 ha
  rw [qH5] at hi
  refine b2 i _ ?_ (by omega)
  rw [← Array.getElem?_toList,List.getElem_take]
  exact qA6 _
 have q2:∀ a∈xs.toList.drop (SetTable.below xs j),j<a:=fun a ha=>by
  obtain ⟨i,hi,rfl⟩:=qP9 ha
  rw [qI7] at hi
  have g:xs[SetTable.below xs j+i]?=some ((xs.toList.drop (SetTable.below xs j))[i]):=by
   rw [← Array.getElem?_toList,qL1]
   exact qA6 _
  have l:=b3 _ _ g (by omega)
  rcases qQ5 l with l | l
  ·exact l
  ·exfalso
   by_cases e0:i=0
   ·subst e0
    rw [← l] at g
    exact hn g
   ·have hlt:SetTable.below xs j<xs.size:=by rw [Array.length_toList] at hi; omega
    have hr:xs[SetTable.below xs j]?=some xs[SetTable.below xs j]:=Array.getElem?_eq_getElem hlt
    have:=h.get hr g (by omega)
    have:=b3 _ _ hr (qB0 _)
    omega
 rw [qC4,qG0]
 refine ⟨p1,⟨q2,p2⟩,fun a ha b hb=>?_⟩
 rcases qB9.mp hb with rfl | hb
 ·exact q1 a ha
 ·exact p3 a ha b hb
theorem zHz {t:SetTable}{j:Nat} (h:(∃ i,t.slot j=.live i)→False):t.place[SetTable.below t.place j]?≠some j:=by
 intro e
 refine h ⟨SetTable.below t.place j,?_⟩
 unfold SetTable.slot
 simp only [e,beq_self_eq_true,if_true]
theorem zGK {t:SetTable}{f:Nat→Int}{h:Int}:∀ (n:Nat) (p:SetTable.Probe) {j:Nat}{d:Option Nat},(∀ x,p.dummy=some x→t.place[SetTable.below t.place x]?≠some x)→SetTable.probe.go t f h n p=some (.empty j d)→t.place[SetTable.below t.place (d.getD j)]?≠some (d.getD j)
 | 0,p,j,d,hp,e=>by cases e
 | n+1,p,j,d,hp,e=>by
  unfold SetTable.probe.go at e
  have adv:∀ q:SetTable.Probe,(t.advance q).dummy=q.dummy:=fun q=>by
   unfold SetTable.advance
   split <;> rfl
  split at e
  ·rename_i hs
   cases e
   cases hd:p.dummy with
   | none=>exact zHz fun ⟨i,hi⟩=>by rw [show (none:Option Nat).getD p.j=p.j from rfl,hs] at hi; cases hi
   | some x=>exact hp x hd
  ·rename_i hs
   refine zGK n _ (fun x hx=>?_) e
   rw [adv] at hx
   cases hx
   exact zHz fun ⟨i,hi⟩=>by rw [hs] at hi; cases hi
  ·split at e
   ·cases e
   ·exact zGK n _ (fun x hx=>hp x (by rw [adv] at hx; exact hx)) e
theorem zGX {t:SetTable}{h:Int}{j:Nat}{b:Bool} (e:t.freeSlot h=some (j,b)):t.place[SetTable.below t.place j]?≠some j:=by
 unfold SetTable.freeSlot at e
 split at e
 ·rename_i j' d he
  cases e
  exact zGK _ _ (fun x hx=>by simp [SetTable.probeStart] at hx) he
 ·cases e
structure TOk (bt:Bool) (t:SetTable):Prop where
 led:t.led=!bt
 up:t.plain=true→Rs t.place
theorem TOk.fresh (bt:Bool):TOk bt (.fresh 0 0 (!bt)):=⟨rfl,fun _=>by simp [SetTable.fresh,Rs]⟩
theorem TOk.standIn {bt:Bool}{t:SetTable} (h:TOk bt t) (n:Nat):TOk bt (t.standIn n):=⟨h.led,fun e=>by cases e⟩
theorem TOk.layNew {bt:Bool}{t:SetTable} (k:TOk bt t) (es:Array (Int × Value)) (h:Int) (x:Value):TOk bt (layNew t es h x).2.1:=by
 unfold PySem.layNew
 split
 ·rename_i j b e
  show TOk bt (SetTable.orStandIn (t.put j).1 _)
  have k1:TOk bt (t.put j).1:=⟨k.led,fun p=>(k.up p).insert (zGX e)⟩
  unfold SetTable.orStandIn
  split
  ·exact k1
  ·exact k1.standIn _
 ·exact k.standIn _
theorem zRQ {m f v:Nat}{l p:Bool}{hs:Array Int}{t:SetTable}{o:Array Nat} (e:SetTable.laid m f v l p hs=some (t,o)):t.led=l∧t.plain=p∧Rs t.place:=by
 unfold SetTable.laid at e
 obtain ⟨ow,_,e⟩:=qA3.mp e
 cases e
 refine ⟨rfl,rfl,?_⟩
 have e2:∀ ks:List Nat,(ks.filterMap fun j=>(ow.getD j none).map (j,·)).map (·.1)=ks.filter fun j=>(ow.getD j none).isSome:=by
  intro ks
  induction ks with
  | nil=>rfl
  | cons a ks ih =>
   cases h:ow.getD a none with
   | none=>rw [List.filterMap_cons_none (by rw [h]; rfl),List.filter_cons_of_neg (by rw [h]; exact qB1),ih]
   | some b=>rw [List.filterMap_cons_some (b:=(a,b)) (by rw [h]; rfl),List.filter_cons_of_pos (by rw [h]; rfl),qC1,ih]
 show List.Pairwise (·<·) (((List.range (m+1)).filterMap fun j=>(ow.getD j none).map (j,·)).map (·.1))
 rw [e2]
 exact List.Pairwise.filter _ List.pairwise_lt_range
theorem TOk.relayAll {bt:Bool}{t:SetTable} (k:TOk bt t) (es:Array (Int × Value)) (n:Nat):TOk bt (relayAll t es n).2.1:=by
 unfold PySem.relayAll
 split
 ·rename_i t' o e
  obtain ⟨h1,h2,h3⟩:=zRQ e
  dsimp only
  split
  ·exact ⟨h1.trans k.led,fun _=>h3⟩
  ·exact k.standIn _
 ·exact k.standIn _
open PySem PySem.Spec PyProof.Rows
noncomputable def iV:Value→Int
 | .int z _=>z
 | _=>0
noncomputable def iE (e:Int × Value):Int:=iV e.2
def EI (es:List (Int × Value)):Prop:=∀ e∈es,∃ z tk,e=(hashInt z,Value.int z tk)
theorem EI.elems {prog:Program}{w:World}{es:List (Int × Value)} (h:EI es):ElemsOf (intKind prog w) es:=fun e he=>by
 obtain ⟨z,tk,rfl⟩:=h e he
 exact ⟨⟨z,intKind_is prog w z tk,rfl⟩,rfl⟩
theorem EI.perm {a b:List (Int × Value)} (h:EI a) (p:b.Perm a):EI b:=fun e he=>h e (p.mem_iff.mp he)
inductive StI (bt:Bool) (h:Heap) (a:Addr) (zs:List Int):Prop
 | mk (o:Obj) (es:Array (Int × Value)) (ep:Nat) (t:SetTable) (g:h.get? a=some o) (x:o.ExactSet) (d:o.data=.set es ep t) (k:TOk bt t) (f:t.fits es.size=true) (b:es.size<scanBound) (e:EI es.toList) (p:(es.toList.map iE).Perm zs)
theorem StI.at {bt:Bool}{h h':Heap}{a:Addr}{zs:List Int} (S:StI bt h a zs) (k:∀ o,h.get? a=some o→h'.get? a=some o):StI bt h' a zs:=by
 obtain ⟨o,es,ep,t,g,r⟩:=S
 exact ⟨o,es,ep,t,k o g,‹_›,‹_›,‹_›,‹_›,‹_›,‹_›,‹_›⟩
theorem StI.stored {bt:Bool}{h:Heap}{a:Addr}{o:Obj}{es es':Array (Int × Value)}{ep:Nat}{t t':SetTable}{zs:List Int} (g:h.get? a=some o) (x:o.ExactSet) (d:o.data=.set es ep t)
  (k:TOk bt t') (f:t'.fits es'.size=true) (b:es'.size<scanBound) (e:EI es'.toList) (p:(es'.toList.map iE).Perm zs) :
  (h.update a (Obj.putSet es' t')).get? a=some { o with data:=.set es' (ep+1) t' }∧StI bt (h.update a (Obj.putSet es' t')) a zs:=by
 have hg:(h.update a (Obj.putSet es' t')).get? a=some { o with data:=.set es' (ep+1) t' }:=by
  have:=qH8 (Obj.putSet es' t') g (by rw [putSet_of es' t' d]; rfl)
  rw [putSet_of es' t' d] at this
  exact this
 exact ⟨hg,_,es',ep+1,t',hg,x,rfl,k,f,b,e,p⟩
noncomputable def one (zs:List Int) (z:Int):List Int:=if z∈zs then zs else z::zs
section
variable {prog:Program}{w:World}{A:Around}{E:Value→Shared→Prop}{s:Shared}{bt:Bool}{a:Addr}{zs:List Int}
theorem add_int {z:Int}{tk:Tok}{Q:Bool→Shared→Prop} (S:StI bt s.heap a zs) (room:zs.length+1<scanBound)
  (h:∀ (b:Bool) (h':Heap),qE2 a s.heap h'→StI bt h' a (one zs z)→Q b { s with heap:=h' }) :
  wpAny (model prog w) A (setAddHashed a (.int z tk) (hashInt z)) Q E s:=by
 obtain ⟨o,es,ep,t,g,x,d,k,f,b,e,p⟩:=S
 have hl:es.size=zs.length:=by rw [← p.length_eq,qA2,Array.length_toList]
 unfold setAddHashed setAddHashedIn
 refine wpAny_holding (wpAny_bind (wpAny_setState_of g d f ?_))
 dsimp only
 rw [byScan_of (knd:=intKind prog w) rfl b e.elems,if_pos rfl]
 unfold setAddByScan
 refine wpAny_bind (wpAny_bind (wpAny_rule (wpAny_bind (wpAny_setScan_of (knd:=intKind prog w) (k:=z) (intKind_is prog w z tk) g d f e.elems ?_))))
 cases hr:es.toList.findIdx? (fun q=>(intKind prog w).is z q.2) with
 | some j =>
  obtain ⟨hj,hp,_⟩:=List.findIdx?_eq_some_iff_getElem.mp hr
  have hm:z∈zs:=by
   obtain ⟨z',tk',e1⟩:=e _ (qE3 hj)
   rw [e1] at hp
   have hz:z'=z:=by simpa [intKind,Value.isInt] using hp
   rw [← hz]
   refine p.mem_iff.mp (qC8.mpr ⟨_,qE3 hj,?_⟩)
   rw [e1]
   rfl
  refine wpAny_pure (wpAny_pure ?_)
  have:=h false s.heap (qE2.refl ..) ⟨o,es,ep,t,g,x,d,k,f,b,e,by rw [one,if_pos hm]; exact p⟩
  cases s
  exact this
 | none =>
  have hm:z∉zs:=fun hz=>by
   obtain ⟨q,hq,e2⟩:=qC8.mp (p.mem_iff.mpr hz)
   have:=List.findIdx?_eq_none_iff.mp hr q hq
   obtain ⟨z',tk',e1⟩:=e q hq
   rw [e1] at this e2
   have hz':z'=z:=e2
   subst hz'
   exact absurd (intKind_is prog w z' tk') (by rw [this]; exact qB1)
  have p1:=layNew_perm t es (hashInt z) (.int z tk)
  have f1:=layNew_fits t es (hashInt z) (.int z tk)
  have k1:=k.layNew es (hashInt z) (.int z tk)
  dsimp only
  generalize hL:layNew t es (hashInt z) (.int z tk)=L at p1 f1 k1 ⊢
  obtain ⟨es1,t1,wd,gv⟩:=L
  dsimp only at p1 f1 k1 ⊢
  have e1:EI es1.toList:=EI.perm (fun q hq=>by
   rw [Array.toList_push] at hq
   rcases qB3.mp hq with hq | hq
   ·exact e q hq
   ·exact ⟨z,tk,qA9.mp hq⟩) p1
  have q1:(es1.toList.map iE).Perm (one zs z):=by
   refine (p1.map iE).trans ?_
   rw [Array.toList_push,qE0,one,if_neg hm]
   exact (List.Perm.append_right _ p).trans (List.perm_append_singleton z zs)
  have z1:es1.size=es.size+1:=by rw [← Array.length_toList,p1.length_eq,Array.length_toList,Array.size_push]
  have b1:es1.size<scanBound:=by omega
  have tail:∀ (t2:SetTable) (G:Bool→Sem Unit) (hG:∀ (b:Bool) (s₁:Shared) (Q':Unit→Shared→Prop),Q' () s₁→wpAny (model prog w) A (G b) Q' E s₁),TOk bt t2→t2.fits es1.size=true →
    wpAny (model prog w) A (do
     storeSet a es1 t2
     if (!wd&&t2.tooFull)=true then do
       G (relayAll t2 es1 (SetTable.grown es1.size)).2.2
       storeSet a (relayAll t2 es1 (SetTable.grown es1.size)).1 (relayAll t2 es1 (SetTable.grown es1.size)).2.1
       pure (some true)
      else pure (some true)) (fun r s'=>wpAny (model prog w) A (match r with | some added=>pure added | none=>setAddHashedIn a (.int z tk) (hashInt z) 99999) Q E s') E s:=by
   intro t2 G hG k2 f2
   refine wpAny_bind (wpAny_storeSet_of g d ?_ (fits_of_scanBound b1))
   obtain ⟨g3,S3⟩:=StI.stored g x d k2 f2 b1 e1 q1
   split
   ·have p4:=relayAll_perm t2 es1 (SetTable.grown es1.size)
    have f4:=relayAll_fits t2 es1 (SetTable.grown es1.size)
    have k4:=k2.relayAll es1 (SetTable.grown es1.size)
    generalize relayAll t2 es1 (SetTable.grown es1.size)=M at p4 f4 k4 ⊢
    obtain ⟨es2,t3,gv2⟩:=M
    dsimp only at p4 f4 k4 ⊢
    have z4:es2.size=es1.size:=by rw [← Array.length_toList,p4.length_eq,Array.length_toList]
    have b4:es2.size<scanBound:=by omega
    refine wpAny_bind (hG _ _ _ (wpAny_bind (wpAny_storeSet_of g3 rfl ?_ (fits_of_scanBound b4))))
    refine wpAny_pure (wpAny_pure (h true _ ((qE2.update s.heap a _).trans (qE2.update _ a _)) ?_))
    exact (StI.stored g3 x rfl k4 f4 b4 (e1.perm p4) ((p4.map iE).trans q1)).2
   ·exact wpAny_pure (wpAny_pure (h true _ (qE2.update s.heap a _) S3))
  have hgw:∀ (b:Bool) (s₁:Shared) (Q':Unit→Shared→Prop),Q' () s₁→wpAny (model prog w) A (match b with | true=>rule "set.scan.the-table-gave-way" | false=>pure ()) Q' E s₁ :=
   fun b s₁ Q' hq=>by cases b <;> first | exact wpAny_pure hq | exact wpAny_rule hq
  refine wpAny_bind (hgw _ _ _ ?_)
  split
  ·refine wpAny_bind ?_
   rw [hashByValue_scannable 8 rfl]
   refine wpAny_pure ?_
   exact tail _ _ hgw k1 f1
  ·refine wpAny_bind (wpAny_pure ?_)
   exact tail _ _ hgw k1 f1
end
open PySem PySem.Spec PyProof.Rows
def IsSI (h:Heap) (it S:Addr) (f:Value) (i n ep:Nat):Prop:=∃ o,h.get? it=some o∧o.cls=.type "set_iterator"∧o.data=.fields #[f,.int (i:Int) 0,.ref S,.int (n:Int) 0,.int (ep:Int) 0]
section
variable {prog:Program}{w:World}{A:Around}{E:Value→Shared→Prop}{s:Shared}{it S:Addr}{f:Value}{i n ep:Nat}
theorem IsSI.ty (h:IsSI s.heap it S f i n ep):s.TypeIs (.ref it) "set_iterator":=let ⟨o,g,c,_⟩:=h; ⟨o,g,c⟩
theorem IsSI.at {h h':Heap} (x:IsSI h it S f i n ep) (e:∀ o,h.get? it=some o→h'.get? it=some o):IsSI h' it S f i n ep:=let ⟨o,g,r⟩:=x; ⟨o,e _ g,r⟩
end
open PySem PySem.Spec PyProof.Rows
section
variable {prog:Program}{w:World}{A:Around}{E:Value→Shared→Prop}{s:Shared}{S I T:Addr}{ep:Nat}{es:Array (Int × Value)}{t:SetTable}{o:Obj}{vs:List Value}
inductive SIt (prog:Program) (w:World) (A:Around) (h0:Heap) (S I:Addr) (h':Heap) (n:Nat) (vs:List Value):Prop
 | mk (fp:List Addr) (St:Nat→Heap→Prop) (vals:List Value) (p:vals.Perm vs) (W:Walks prog w A I fp [I] n (fun i v=>vals[i]?=some v) St) (st:St 0 h') (f:∀ b∈fp,b=S∨h0.objs.size≤b) (i:h0.objs.size≤I)
end
open PySem PySem.Spec PyProof.Rows
theorem Inv.dr {X:Cx}{pins:List (Addr × Obj)}{σ:St}{H:Hp}{s:Shared} (I:Inv X pins σ H s) (d:Drawn):Inv X pins σ H { s with drawn:=d } :=
 ⟨I.ok,I.os,I.bare,I.base,I.loc,I.cell,I.free,I.freeC,I.pin,I.hok,I.len⟩
section
variable {prog:Program}{w:World}{A:Around}{E:Value→Shared→Prop}{s:Shared}{r:Addr}
theorem zHw {Q:Value→Shared→Prop}{ns:List Int} (hl:ns.length<64)
  (hc:∀ (A:Around) (E:Value→Shared→Prop) (R:List Value→Shared→Prop),A.handled=none→(∀ (h':Heap) (tk:Nat) (dr:Drawn) (us:List Value) (ms:List Int),(∀ b o,s.heap.get? b=some o→h'.get? b=some o)→IntsAre us ms→ms.Perm ns→R us { s with heap:=h',toks:=tk,drawn:=dr })→wpAny (model prog w) A (collect (.ref r)) R E s)
  (hh:A.handled=none)
  (h:∀ (h1:Heap) (l:Addr) (h':Heap) (tk:Nat) (dr:Drawn) (e:Nat) (us:List Value) (ms:List Int),(∀ b o,s.heap.get? b=some o→h1.get? b=some o)→(∀ b o,h1.get? b=some o→h'.get? b=some o)→h1.objs.size≤l→h'.get? l=some (seqObj "list" us.toArray e)→IntsAre us ms→ms.Perm ns→ms.Pairwise (·≤·)→Q (.ref l) { s with heap:=h',toks:=tk,drawn:=dr }) :
  wpAny (model prog w) A (call (.builtin "sorted") [.ref r]) Q E s:=by
 refine Calls.call_function_entry kind_sorted plain_sorted entry_sorted (args_sorted1 _) ?_
 unfold Builtin.«sorted»
 refine wpAny_bind (m:=checkCount "sorted" 1 1 _) (wpAny_pure ?_)
 refine wpAny_bind (hc _ _ _ hh fun h' tk dr us ms hk hi hp=>?_)
 have hlen:us.length=ns.length:=by
  rw [← hp.length_eq]
  clear hk hp
  induction hi with
  | nil=>rfl
  | cons _ _ _ ih=>simp [ih]
 refine wpAny_bind (wpAny_newList ?_ (by rw [hlen,sizeLine_eq]; omega))
 have hoL:(h'.push (seqObj "list" us.toArray 0)).get? h'.objs.size=some (seqObj "list" us.toArray 0):=qB4 _ rfl
 show wpAny _ _ _ _ _ { s with heap:=h'.push (seqObj "list" us.toArray 0),toks:=tk,drawn:=dr }
 refine wpAny_bind (wpAny_holding (wpAny_call_entry slot_list_sort ⟨_,hoL,rfl⟩ entry_list_sort (list_sort_tree hoL hi (by omega) fun out ns' a1 a2 a3=>⟨_,rfl,?_⟩) (args_list_sort _)))
 obtain ⟨e,he⟩:=sortedHeap_at (out:=out) hoL
 refine wpAny_pure ⟨_,rfl,h h' h'.objs.size _ tk dr e out.toList ns' hk (fun b o g=>?_) (qB0 _) (by simpa using he) a1 (a2.trans hp) a3⟩
 have lt:b<h'.objs.size:=qB6 g
 rw [sortedHeap_old (qC7 lt) (by rw [size_push']; exact qG3 lt)]
 exact qA5 _ g
end
open PySem PySem.Spec PyProof.Rows
theorem zNa:∀ (us:List Value) (ns:List Int),us.length=ns.length→(∀ (j:Nat) (v:Value) (n:Int),us[j]?=some v→ns[j]?=some n→∃ t,v=.int n t)→IntsAre us ns
 | [],[],_,_=>.nil
 | [],_::_,h,_=>by cases h
 | _::_,[],h,_=>by cases h
 | u::us,n::ns,h,k=>by
  obtain ⟨t,rfl⟩:=k 0 u n rfl rfl
  exact .cons n t (zNa us ns (by simpa using h) fun j v m e1 e2=>k (j+1) v m (by simpa using e1) (by simpa using e2))
theorem zIn {X:Cx} (hc:X.calm=true):zAV X (.builtin "sorted") (fun vs H Q=>∃ (p:Addr) (kvs:List (Key × V)) (ns:List Int),vs=[.ref p]∧H p=some (.dK kvs)∧kvs.map (·.1)=ns.map Sum.inl∧ns.length<64∧∀ (l:Addr) (ms:List Int),H l=none→ms.Perm ns→ms.Pairwise (·≤·)→Q (.ref l) (upd H l (.lst (ms.map V.int)))):=by
 intro pins s σ H xs us Q I r h
 obtain ⟨p,kvs,ns,rfl,hp,hk,hn,q⟩:=h
 obtain ⟨u,rfl,ru⟩:=zCP r
 cases ru
 obtain ⟨hz,lo,vs,kv,dd⟩:=zNA I.hok hp
 obtain ⟨ep,hat⟩:=dd.dictAt
 have hl:vs.length=ns.length:=by rw [← Paired.length kv,← qA2 (f:=(·.1)),hk,qA2]
 refine zHw hn (fun A E R hA hR=>W.kdu_collect (W.kdl_dict (knd:=zAn X.prog X.w) (kvs:=vs) (ep:=ep) lo) hA hat (by rw [hl,sizeLine_eq]; omega) fun h' tk acc hk2 hacc=>hR h' tk s.drawn _ ns hk2 ?_ (.refl _)) (I.ok.hd hc) fun h2 l2 h3 tk3 dr e us ms k2 k3 le g3 hi hpm hw=>?_
 ·refine zNa _ _ (by rw [Array.length_toList,hacc.1,hl]) fun j v n e1 e2=>?_
  obtain ⟨k,x,e3,e4⟩:∃ k x,vs[j]?=some (k,x)∧(zAn X.prog X.w).is k v=true:=hacc.2 j v (by rw [← Array.getElem?_toList]; exact e1)
  obtain ⟨q1,e5,e6,_⟩:=zL1 kv e3
  have e7:(kvs.map (·.1))[j]?=some k:=by rw [qB7,e5]; exact congrArg some e6
  rw [hk,qB7,e2] at e7
  cases e7
  cases v <;> first | exact absurd e4 qB1 | skip
  rename_i i t
  have:i=n:=by simpa [zAn,zJ7,Value.isInt] using e4
  subst this
  exact ⟨t,rfl⟩
 ·have I2:Inv X pins σ H { s with heap:=h2,toks:=tk3,drawn:=dr }:=(I.kept (t':=tk3) fun b o e=>k2 b o e).dr dr
  refine ⟨.ref l2,_,I2.laid (t':=tk3) (o:=.lst (ms.map V.int)) k3 le ?_,rfl,q _ _ (I2.hok.fresh le) hpm hw⟩
  have hl2:ms.length<64:=by rw [hpm.length_eq]; exact hn
  exact ⟨by rw [qA2]; exact qC5 (qG7 hl2) (by decide),us,e,zFc hi,by simpa [seqObj] using g3⟩
open PySem PySem.Spec PyProof.Rows
structure Swo (lt:Keyed→Keyed→Bool):Prop where
 as:∀ x y,lt x y=true→lt y x=false
 tr:∀ x y z,lt y x=false→lt z y=false→lt z x=false
theorem Swo.flip {lt:Keyed→Keyed→Bool} (h:Swo lt):Swo fun x y=>lt y x :=
 ⟨fun x y e=>h.as y x e,fun x y z a b=>h.tr z y x b a⟩
theorem Swo.rf {lt:Keyed→Keyed→Bool} (h:Swo lt) (x:Keyed):lt x x=false:=by
 cases e:lt x x with
 | false=>rfl
 | true=>exact e.symm.trans (h.as x x e)
abbrev Srt (lt:Keyed→Keyed→Bool) (l:List Keyed):Prop:=l.Pairwise fun x y=>lt y x=false
structure MrgI (lt:Keyed→Keyed→Bool) (a b ra rb out:List Keyed):Prop where
 pm:(out++(ra++rb)).Perm (a++b)
 so:Srt lt out
 sa:Srt lt ra
 sb:Srt lt rb
 la:∀ x∈out,∀ y∈ra,lt y x=false
 lb:∀ x∈out,∀ y∈rb,lt y x=false
section
variable {lt:Keyed→Keyed→Bool}{a b ra rb out xs:List Keyed}{x:Keyed}
theorem MrgI.swap (h:MrgI lt a b ra rb out):MrgI lt b a rb ra out :=
 ⟨((List.Perm.refl out).append qG5).trans (h.pm.trans qG5),h.so,h.sb,h.sa,h.lb,h.la⟩
theorem MrgI.push (h:MrgI lt a b (xs++ra) rb out) (k:∀ x∈xs,∀ y∈rb,lt y x=false):MrgI lt a b ra rb (out++xs):=by
 obtain ⟨pm,so,sa,sb,la,lb⟩:=h
 obtain ⟨s1,s2,s3⟩:=qC4.mp sa
 refine ⟨?_,qC4.mpr ⟨so,s1,fun x hx y hy=>la x hx y (qD5 _ hy)⟩,s2,sb,fun x hx y hy=>?_,fun x hx y hy=>?_⟩
 ·simpa [qB8] using pm
 ·rcases qB3.mp hx with hx | hx
  ·exact la x hx y (qC6 _ hy)
  ·exact s3 x hx y hy
 ·rcases qB3.mp hx with hx | hx
  ·exact lb x hx y hy
  ·exact k x hx y hy
structure Mg (lt:Keyed→Keyed→Bool) (a b out:List Keyed):Prop where
 pm:out.Perm (a++b)
 so:Srt lt out
theorem MrgI.fin (h:MrgI lt a b ra [] out):Mg lt a b (out++ra) :=
 ⟨by simpa using h.pm,qC4.mpr ⟨h.so,h.sa,h.la⟩⟩
theorem MrgI.last (h:MrgI lt a b [x] rb out) (k:∀ y∈rb,lt x y=false):Mg lt a b (out++rb++[x]):=by
 refine ⟨?_,qC4.mpr ⟨qC4.mpr ⟨h.so,h.sb,h.lb⟩,qE7 ..,fun u hu v hv=>?_⟩⟩
 ·rw [qB8]
  exact ((List.Perm.refl out).append qG5).trans h.pm
 ·have e:=qA9.mp hv
  subst e
  rcases qB3.mp hu with hu | hu
  ·exact h.la u hu v (qF0 _)
  ·exact k u hu
theorem Srt.rev (h:Srt (fun x y=>lt y x) out):Srt lt out.reverse:=qJ5.mpr h
end
noncomputable def gallop':Bool→Keyed→Array Keyed→Nat→Nat→Nat→StateT SortSt Sem (Option Nat):=sortPriv% PySem.Builtin.gallop
noncomputable def mergeLo':Array Keyed→Array Keyed→StateT SortSt Sem (Array Keyed):=sortPriv% PySem.Builtin.mergeLo
noncomputable def mergeHi':Array Keyed→Array Keyed→StateT SortSt Sem (Array Keyed):=sortPriv% PySem.Builtin.mergeHi
noncomputable def bq (lt:Keyed→Keyed→Bool) (left:Bool) (key x:Keyed):Bool:=if left then lt x key else !lt key x
def Asks (prog:Program) (w:World) (A:Around) (s:Shared) (κ:SortKind) (lt:Keyed→Keyed→Bool) (G:Keyed→Prop):Prop :=
 ∀ x y,G x→G y→∀ Q:Bool→Shared→Prop,Q (lt x y) s→wpAny (model prog w) A (keyLt' κ x.1 y.1) Q (fun _ _=>False) s
section
variable {prog:Program}{w:World}{A:Around}{E:Value→Shared→Prop}{s:Shared}{κ:SortKind}{lt:Keyed→Keyed→Bool}{G:Keyed→Prop}{st:SortSt}
theorem zM5 {x y:Keyed}{Q:Option Bool→SortSt→Prop} (hA:Asks prog w A s κ lt G) (hk:kindOf st=κ) (hx:G x) (hy:G y) (h:Q (some (lt x y)) st):wpS (model prog w) A E s (lt' x y) Q st:=by
 rw [lt'_eq]
 refine wpS_bind (wpS_get ?_)
 rw [hk]
 refine wpS_bind (wpS_lift (wpAny_attempt (wpAny_mono (hA x y hx hy (fun b s'=>s'=s∧b=lt x y) ⟨rfl,rfl⟩) (fun b s' e=>?_) fun _ _ x=>x.elim)))
 obtain ⟨rfl,rfl⟩:=e
 exact ⟨rfl,wpS_pure h⟩
theorem zAh {arr:Array Keyed}{i:Nat}{x:Keyed}{Q:Keyed→SortSt→Prop} (hx:arr[i]?=some x) (h:Q x st):wpS (model prog w) A E s (elem' arr i) Q st:=by
 rw [elem'_eq,hx]; exact wpS_pure h
theorem zSC {left:Bool}{key x:Keyed}{arr:Array Keyed}{i:Nat}{Q:Option Bool→SortSt→Prop} (hA:Asks prog w A s κ lt G) (hk:kindOf st=κ) (hx:arr[i]?=some x) (gx:G x) (gk:G key) (h:Q (some (bq lt left key x)) st) :
  wpS (model prog w) A E s (do let x ← elem' arr i; if left then lt' x key else return (← lt' key x).map (!·)) Q st:=by
 refine wpS_bind (zAh hx ?_)
 cases left with
 | true=>exact zM5 hA hk gx gk h
 | false=>exact wpS_bind (zM5 hA hk gk gx (wpS_pure h))
def GalI (P:Nat→Bool) (n x:Nat) (c:Option (Option Nat) × Nat × Nat) (st' st:SortSt):Prop:=st'=st∧∃ lo hi,c=(none,lo,hi)∧lo≤hi∧hi≤n∧hi - lo≤n - x∧(∀ i,i<lo→P i=true)∧(∀ i,hi≤i→i<n→P i=false)
theorem zNm {P:Nat→Bool}{n:Nat}{B:Nat→StateT SortSt Sem (Option Bool)} (bey:∀ {i:Nat}{R:Option Bool→SortSt→Prop},i<n→R (some (P i)) st→wpS (model prog w) A E s (B i) R st)
  {c:Option (Option Nat) × Nat × Nat} (h:GalI P n 0 c st st) (hm:∀ i j,i≤j→j<n→P j=true→P i=true) :
  wpS (model prog w) A E s (forIn [:n] c fun _ c=>if c.2.1≥c.2.2 then pure (ForInStep.done (none,c.2.1,c.2.2)) else B (c.2.1+(c.2.2 - c.2.1) / 2) >>= fun r=>match r with
   | some more=>if more=true then pure (ForInStep.yield (none,c.2.1+(c.2.2 - c.2.1) / 2+1,c.2.2)) else pure (ForInStep.yield (none,c.2.1,c.2.1+(c.2.2 - c.2.1) / 2))
   | _=>pure (ForInStep.done (some none,c.2.1,c.2.2)))
   (fun c st'=>st'=st∧∃ k,c=(none,k,k)∧k≤n∧(∀ i,i<k→P i=true)∧(∀ i,k≤i→i<n→P i=false)) st:=by
 refine wpS_forRange (I:=fun x c st'=>GalI P n x c st' st) ?_ ?_ h
 ·rintro x c st' _ hx ⟨rfl,lo,hi,rfl,h1,h2,h3,h4,h5⟩
  dsimp only
  by_cases hge:lo≥hi
  ·rw [if_pos hge]
   have e:lo=hi:=by omega
   subst e
   exact wpS_pure ⟨rfl,lo,rfl,h2,h4,h5⟩
  ·rw [if_neg hge]
   refine wpS_bind (bey (i:=lo+(hi - lo) / 2) (by omega) ?_)
   cases e:P (lo+(hi - lo) / 2) with
   | true=>exact wpS_pure ⟨rfl,_,_,rfl,by omega,h2,by omega,fun i hi'=>hm i _ (by omega) (by omega) e,h5⟩
   | false =>
    refine wpS_pure ⟨rfl,_,_,rfl,by omega,by omega,by omega,h4,fun i h6 h7=>?_⟩
    cases e2:P i with
    | false=>rfl
    | true=>rw [hm _ i h6 h7 e2] at e; cases e
 ·rintro c st' ⟨rfl,lo,hi,rfl,h1,h2,h3,h4,h5⟩
  have e:lo=hi:=by omega
  subst e
  exact ⟨rfl,lo,rfl,h2,h4,h5⟩
theorem zPx {left:Bool}{key:Keyed}{arr:Array Keyed}{base n hint:Nat}{Q:Option Nat→SortSt→Prop} (P:Nat→Bool) (hA:Asks prog w A s κ lt G) (hk:kindOf st=κ) (gk:G key) (hh:hint<n)
  (hp:∀ i,i<n→∃ x,arr[base+i]?=some x∧G x∧bq lt left key x=P i) (hm:∀ i j,i≤j→j<n→P j=true→P i=true)
  (h:∀ k,k≤n→(∀ i,i<k→P i=true)→(∀ i,k≤i→i<n→P i=false)→Q (some k) st) :
  wpS (model prog w) A E s (gallop' left key arr base n hint) Q st:=by
 have bey:∀ {i:Nat}{R:Option Bool→SortSt→Prop},i<n→R (some (P i)) st→wpS (model prog w) A E s (do let x ← elem' arr (base+i); if left then lt' x key else return (← lt' key x).map (!·)) R st:=by
  intro i R hi hR
  obtain ⟨x,hx,gx,e⟩:=hp i hi
  exact zSC hA hk hx gx gk (by rw [e]; exact hR)
 refine wpS_bind (bey hh ?_)
 dsimp only
 have fn:∀ {lo hi:Nat},lo≤hi→hi≤n→(∀ i,i<lo→P i=true)→(∀ i,hi≤i→i<n→P i=false)→GalI P n 0 (none,lo,hi) st st:=fun a b c d=>⟨rfl,_,_,rfl,a,b,by omega,c,d⟩
 cases hr:P hint with
 | true =>
  simp only [if_true]
  refine wpS_bind (wpS_mono (wpS_forRange (I:=fun x c st'=>st'=st∧∃ l o,c=(none,l,o)∧l<o∧hint+l<n∧x+1≤o∧P (hint+l)=true)
   (Q:=fun c st'=>st'=st∧∃ l o,c=(none,l,o)∧l<o∧hint+l<n∧P (hint+l)=true∧(n - hint≤o∨hint+o<n∧P (hint+o)=false)) ?_ ?_ ⟨rfl,0,1,rfl,by omega,by omega,by omega,hr⟩) ?_)
  ·rintro x c st' _ hx ⟨rfl,l,o,rfl,h1,h2,h3,h4⟩
   dsimp only
   by_cases hge:o≥n - hint
   ·rw [if_pos hge]; exact wpS_pure ⟨rfl,l,o,rfl,h1,h2,h4,.inl hge⟩
   ·rw [if_neg hge]
    refine wpS_bind (bey (i:=hint+o) (by omega) ?_)
    cases e:P (hint+o) with
    | true=>exact wpS_pure ⟨rfl,o,2*o+1,rfl,by omega,by omega,by omega,e⟩
    | false=>exact wpS_pure ⟨rfl,l,o,rfl,h1,h2,h4,.inr ⟨by omega,e⟩⟩
  ·rintro c st' ⟨rfl,l,o,rfl,h1,h2,h3,h4⟩
   exact ⟨rfl,l,o,rfl,h1,h2,h4,.inl (by omega)⟩
  ·rintro c st' ⟨rfl,l,o,rfl,h1,h2,h4,h5⟩
   dsimp only
   refine wpS_bind (wpS_mono (zNm (bey:=bey) (hm:=hm) (fn (lo:=hint+l+1) (hi:=hint+min o (n - hint)) (by omega) (by omega) (fun i hi=>hm i (hint+l) (by omega) h2 h4) fun i h6 h7=>?_)) ?_)
   ·rcases h5 with h5 | ⟨h8,h9⟩
    ·omega
    ·cases e:P i with
     | false=>rfl
     | true=>rw [hm (hint+o) i (by omega) h7 e] at h9; cases h9
   ·rintro c st' ⟨rfl,k,rfl,a1,a2,a3⟩
    exact wpS_pure (h k a1 a2 a3)
 | false =>
  simp only [qD9,if_false]
  refine wpS_bind (wpS_mono (wpS_forRange (I:=fun x c st'=>st'=st∧∃ l o,c=(none,l,o)∧l<o∧l≤hint∧x+1≤o∧P (hint - l)=false)
   (Q:=fun c st'=>st'=st∧∃ l o,c=(none,l,o)∧l<o∧l≤hint∧P (hint - l)=false∧(hint+1≤o∨o≤hint∧P (hint - o)=true)) ?_ ?_ ⟨rfl,0,1,rfl,by omega,by omega,by omega,hr⟩) ?_)
  ·rintro x c st' _ hx ⟨rfl,l,o,rfl,h1,h2,h3,h4⟩
   dsimp only
   by_cases hge:o≥hint+1
   ·rw [if_pos hge]; exact wpS_pure ⟨rfl,l,o,rfl,h1,h2,h4,.inl hge⟩
   ·rw [if_neg hge]
    refine wpS_bind (bey (i:=hint - o) (by omega) ?_)
    cases e:P (hint - o) with
    | false=>exact wpS_pure ⟨rfl,o,2*o+1,rfl,by omega,by omega,by omega,e⟩
    | true=>exact wpS_pure ⟨rfl,l,o,rfl,h1,h2,h4,.inr ⟨by omega,e⟩⟩
  ·rintro c st' ⟨rfl,l,o,rfl,h1,h2,h3,h4⟩
   exact ⟨rfl,l,o,rfl,h1,h2,h4,.inl (by omega)⟩
  ·rintro c st' ⟨rfl,l,o,rfl,h1,h2,h4,h5⟩
   dsimp only
   refine wpS_bind (wpS_mono (zNm (bey:=bey) (hm:=hm) (fn (lo:=hint+1 - min o (hint+1)) (hi:=hint - l) (by omega) (by omega) (fun i hi=>?_) fun i h6 h7=>?_)) ?_)
   ·rcases h5 with h5 | ⟨h8,h9⟩
    ·omega
    ·exact hm i (hint - o) (by omega) (by omega) h9
   ·cases e:P i with
    | false=>rfl
    | true=>rw [hm (hint - l) i (by omega) h7 e] at h4; cases h4
   ·rintro c st' ⟨rfl,k,rfl,a1,a2,a3⟩
    exact wpS_pure (h k a1 a2 a3)
end
open PySem PySem.Spec PyProof.Rows
structure Sg (st st':SortSt):Prop where
 k:kindOf st'=kindOf st
 a:arrOf st'=arrOf st
 p:pendingOf st'=pendingOf st
 f:failedOf st'=failedOf st
theorem Sg.rfl (st:SortSt):Sg st st:=⟨Eq.refl _,Eq.refl _,Eq.refl _,Eq.refl _⟩
section
variable {lt:Keyed→Keyed→Bool}{a b ra rb out xs:List Keyed}{x:Keyed}
theorem zGZ (a:List Keyed) (i:Nat):(a.toArray.extract i a.toArray.size).toList=a.drop i:=by
 simp only [List.extract_toArray,qA8,List.extract_eq_take_drop]
 exact qF1 (by simp)
theorem zKv (a:List Keyed) (i j:Nat):(a.toArray.extract i j).toList=(a.drop i).take (j - i):=by
 simp
theorem zH0 {a:List Keyed}{i:Nat} (h:i<a.length):a.drop i=[a[i]]++a.drop (i+1):=qF3 h
theorem zS7 {a:List Keyed}{i j:Nat} (h:i≤j):a.drop i=(a.drop i).take (j - i)++a.drop j:=by
 conv=>lhs; rw [← qD2 (j - i) (a.drop i)]
 rw [qP6]; congr 2; omega
end
theorem zE7 {lt:Keyed→Keyed→Bool}{b:List Keyed}{i:Nat}{x:Keyed} (hO:Swo lt) (sb:Srt lt b) (hi:i<b.length) (h:lt b[i] x=false):∀ y∈b.drop i,lt y x=false:=by
 intro y hy
 rw [zH0 hi] at hy
 rcases qB3.mp hy with hy | hy
 ·rw [qA9.mp hy]; exact h
 ·have s1:Srt lt ([b[i]]++b.drop (i+1)):=by rw [← zH0 hi]; exact sb.sublist (qH2 ..)
  exact hO.tr x b[i] y h ((qC4.mp s1).2.2 _ (qF0 _) y hy)
section
variable {lt:Keyed→Keyed→Bool}{a b:List Keyed}{ia ib k:Nat}{out:Array Keyed}
theorem zUf (h:MrgI lt a b (a.drop ia) (b.drop ib) out.toList) (h1:ia≤a.length) (h2:ib≤b.length):out.size=ia+ib:=by
 have e:=h.pm.length_eq
 simp at e; omega
theorem zF5 (h:MrgI lt a b (a.drop ia) (b.drop ib) out.toList) (e:ib=b.length∨ia=a.length):Mg lt a b (out++a.toArray.extract ia a.toArray.size++b.toArray.extract ib b.toArray.size).toList:=by
 rw [Array.toList_append,Array.toList_append,zGZ,zGZ]
 rcases e with rfl | rfl
 ·rw [qM0] at h ⊢; simpa using h.fin
 ·rw [qM0] at h ⊢
  have:=h.swap.fin
  exact ⟨by simpa using this.pm.trans qG5,by simpa using this.so⟩
theorem zGR (h:MrgI lt a b (a.drop ia) (b.drop ib) out.toList) (e:ia+1=a.length) (hl:∀ y∈b,lt (a[a.length - 1]'(by omega)) y=false):Mg lt a b (out++b.toArray.extract ib b.toArray.size++a.toArray.extract ia a.toArray.size).toList:=by
 rw [Array.toList_append,Array.toList_append,zGZ,zGZ]
 have e1:a.drop ia=[a[a.length - 1]'(by omega)]:=by
  rw [zH0 (by omega),List.drop_of_length_le (by omega),qH9]
  congr 2; omega
 rw [e1] at h ⊢
 exact h.last fun y hy=>hl y (qG9 hy)
theorem lo_a (h:MrgI lt a b (a.drop ia) (b.drop ib) out.toList) (i1:ia<a.length) (k:∀ y∈b.drop ib,lt y a[ia]=false):MrgI lt a b (a.drop (ia+1)) (b.drop ib) (out.push a[ia]).toList:=by
 rw [zH0 i1] at h
 rw [Array.toList_push]
 exact h.push fun x hx=>by rw [qA9.mp hx]; exact k
theorem zUg (h:MrgI lt a b (a.drop ia) (b.drop ib) out.toList) (hk:ia+k≤a.length) (q:∀ i,(hi:i<k)→∀ y∈b.drop ib,lt y (a[ia+i]'(by omega))=false):MrgI lt a b (a.drop (ia+k)) (b.drop ib) (out++a.toArray.extract ia (ia+k)).toList:=by
 rw [zS7 (show ia≤ia+k by omega)] at h
 rw [Array.toList_append,zKv]
 refine h.push fun x hx=>?_
 obtain ⟨i,hi,e⟩:=qH0.mp hx
 have hi':i<k:=by simp at hi; omega
 rw [← e]
 simpa using q i hi'
end
section
variable {lt:Keyed→Keyed→Bool}{a b:List Keyed}{ia ib k:Nat}{out:Array Keyed}
theorem lo_b (h:MrgI lt a b (a.drop ia) (b.drop ib) out.toList) (i1:ib<b.length) (k:∀ y∈a.drop ia,lt y b[ib]=false):MrgI lt a b (a.drop ia) (b.drop (ib+1)) (out.push b[ib]).toList :=
 (lo_a h.swap i1 k).swap
theorem zWW (h:MrgI lt a b (a.drop ia) (b.drop ib) out.toList) (hk:ib+k≤b.length) (q:∀ i,(hi:i<k)→∀ y∈a.drop ia,lt y (b[ib+i]'(by omega))=false):MrgI lt a b (a.drop ia) (b.drop (ib+k)) (out++b.toArray.extract ib (ib+k)).toList :=
 (zUg h.swap hk q).swap
structure Wl (lt:Keyed→Keyed→Bool) (a b:List Keyed) (ia ib:Nat) (out:Array Keyed):Prop where
 m:MrgI lt a b (a.drop ia) (b.drop ib) out.toList
 i:ia+1<a.length
 j:ib<b.length
theorem zPy (hO:Swo lt) (sa:Srt lt a) (left:Bool) (key:Keyed) {i j:Nat} (hij:i≤j) (hj:j<a.length) (h:bq lt left key a[j]=true):bq lt left key (a[i]'(by omega))=true:=by
 rcases qQ5 hij with hlt | rfl
 ·have e:=qN3.mp sa i j (by omega) hj hlt
  cases left with
  | true =>
   show lt a[i] key=true
   cases e2:lt a[i] key with
   | true=>rfl
   | false=>exact (hO.tr key a[i] a[j] e2 e).symm.trans h
  | false =>
   have h':lt key a[j]=false:=by simpa [bq] using h
   show (!lt key a[i])=true
   rw [hO.tr a[i] a[j] key e h']; rfl
 ·exact h
end
section
variable {prog:Program}{w:World}{A:Around}{E:Value→Shared→Prop}{s:Shared}{κ:SortKind}{lt:Keyed→Keyed→Bool}{G:Keyed→Prop}{st:SortSt}
noncomputable def setG':Nat→StateT SortSt Sem Unit:=sortPriv% PySem.Builtin.setMinGallop
theorem zM4 {g:Nat}{Q:Unit→SortSt→Prop} (h:∀ st',Sg st st'→Q () st'):wpS (model prog w) A E s (setG' g) Q st :=
 wpS_modify (h _ ⟨rfl,rfl,rfl,rfl⟩)
theorem Sg.trans {st st' st'':SortSt} (h:Sg st st') (k:Sg st' st''):Sg st st'':=⟨k.k.trans h.k,k.a.trans h.a,k.p.trans h.p,k.f.trans h.f⟩
theorem zGm {left:Bool}{key:Keyed}{a:List Keyed}{base n hint:Nat}{Q:Option Nat→SortSt→Prop} (hO:Swo lt) (hA:Asks prog w A s κ lt G) (hk:kindOf st=κ) (gk:G key) (ga:∀ x∈a,G x) (sa:Srt lt ((a.drop base).take n)) (hn:base+n≤a.length) (hh:hint<n)
  (h:∀ k,k≤n→(∀ i,(hi:i<k)→(hn':i<n)→bq lt left key (a[base+i]'(by omega))=true)→(∀ i,k≤i→(hi:i<n)→bq lt left key (a[base+i]'(by omega))=false)→Q (some k) st) :
  wpS (model prog w) A E s (gallop' left key a.toArray base n hint) Q st:=by
 have ge:∀ i,(hi:i<n)→((a.drop base).take n)[i]'(by simp; omega)=a[base+i]'(by omega):=fun i hi=>by simp
 refine zPx (P:=fun i=>if hi:i<n then bq lt left key (a[base+i]'(by omega)) else false) hA hk gk hh (fun i hi=>⟨a[base+i]'(by omega),by rw [qD3]; exact qA6 (by omega),ga _ (qE3 _),by simp [hi]⟩) (fun i j hij hj hp=>?_) fun k hk1 hk2 hk3=>h k hk1 (fun i hi hn'=>?_) fun i hi hn'=>?_
 ·have hi:i<n:=by omega
  simp only [hi,hj,dif_pos] at hp ⊢
  rw [← ge j hj] at hp
  rw [← ge i hi]
  exact zPy hO sa left key hij (by simp; omega) hp
 ·have:=hk2 i hi; simpa [hn'] using this
 ·have:=hk3 i hi hn'; simpa [hn'] using this
theorem zP7 {a b:List Keyed}{Q:Array Keyed→SortSt→Prop} (hO:Swo lt) (hA:Asks prog w A s κ lt G) (hk:kindOf st=κ) (ga:∀ x∈a,G x) (gb:∀ x∈b,G x) (sa:Srt lt a) (sb:Srt lt b)
  (ha:0<a.length) (hb:0<b.length) (h0:∀ x∈a,lt x b[0]=false) (hl:∀ y∈b,lt (a[a.length - 1]'(by omega)) y=false)
  (h:∀ out st',Sg st st'→Mg lt a b out.toList→Q out st'):wpS (model prog w) A E s (mergeLo' a.toArray b.toArray) Q st:=by
 refine wpS_bind (wpS_lift (wpAny_rule ⟨rfl,?_⟩))
 refine wpS_bind (zAh (x:=b[0]) (by simp [hb]) ?_)
 dsimp only
 have m0:MrgI lt a b (a.drop 0) (b.drop 0) (#[]:Array Keyed).toList:=⟨by simp,.nil,by simpa using sa,by simpa using sb,fun x hx=>(by simp at hx),fun x hx=>(by simp at hx)⟩
 have m1:MrgI lt a b (a.drop 0) (b.drop 1) (#[b[0]]:Array Keyed).toList:=lo_b m0 hb fun y hy=>h0 y (by simpa using hy)
 by_cases e1:(1 == b.toArray.size)=true
 ·rw [if_pos e1]; exact wpS_pure (h _ _ (.rfl _) (zF5 m1 (.inl (by simpa using e1))))
 rw [if_neg e1]
 by_cases e2:(0+1 == a.toArray.size)=true
 ·rw [if_pos e2]; exact wpS_pure (h _ _ (.rfl _) (zGR m1 (by simpa using e2) hl))
 rw [if_neg e2]
 have w1:Wl lt a b 0 1 #[b[0]]:=⟨m1,by simp at e2; omega,by simp at e1; omega⟩
 refine wpS_bind (wpS_get ?_)
 refine wpS_bind (wpS_mono (wpS_forRange (I:=fun x c st'=>∃ out ia ib g,c=(none,out,ia,ib,g)∧Sg st st'∧Wl lt a b ia ib out∧x+1≤out.size)
  (Q:=fun c st'=>∃ r o,c=(some r,o)∧Sg st st'∧Mg lt a b r.toList) ?_ ?_ ⟨_,_,_,_,rfl,.rfl _,w1,by simp⟩) ?_)
 ·rintro x c st1 _ hx ⟨out,ia,ib,g,rfl,hs,W,hsz⟩
  dsimp only
  have hk1:kindOf st1=κ:=hs.k.trans hk
  refine wpS_bind (wpS_mono (wpS_forRange (I:=fun y c st'=>∃ out ia ib p q,c=(none,out,ia,ib,p,q)∧st'=st1∧Wl lt a b ia ib out∧x+1+y≤out.size)
   (Q:=fun c st'=>st'=st1∧((∃ r o,c=(some r,o)∧Mg lt a b r.toList)∨∃ out ia ib p q,c=(none,out,ia,ib,p,q)∧Wl lt a b ia ib out∧x+2≤out.size)) ?_ ?_ ⟨_,_,_,_,_,rfl,rfl,W,by omega⟩) ?_)
  ·rintro y c st2 _ hy ⟨out,ia,ib,p,q,rfl,rfl,W,hsz⟩
   dsimp only
   have i1:=W.i
   have j1:=W.j
   refine wpS_bind (zAh (x:=b[ib]) (by simp [j1]) (wpS_bind (zAh (x:=a[ia]) (by rw [qD3]; exact qA6 (by omega)) (wpS_bind (zM5 hA hk1 (gb _ (qE3 _)) (ga _ (qE3 _)) ?_)))))
   cases e:lt b[ib] a[ia] with
   | true =>
    refine wpS_bind (zAh (x:=b[ib]) (by simp [j1]) ?_)
    have m2:=lo_b W.m j1 (zE7 hO sa (by omega) (hO.as _ _ e))
    by_cases e3:(ib+1 == b.toArray.size)=true
    ·rw [if_pos e3]; exact wpS_pure ⟨rfl,.inl ⟨_,_,rfl,zF5 m2 (.inl (by simpa using e3))⟩⟩
    rw [if_neg e3]
    have w2:Wl lt a b ia (ib+1) (out.push b[ib]):=⟨m2,i1,by simp at e3; omega⟩
    split
    ·exact wpS_pure ⟨rfl,.inr ⟨_,_,_,_,_,rfl,w2,by simp; omega⟩⟩
    ·exact wpS_pure ⟨_,_,_,_,_,rfl,rfl,w2,by simp; omega⟩
   | false =>
    refine wpS_bind (zAh (x:=a[ia]) (by rw [qD3]; exact qA6 (by omega)) ?_)
    have m2:=lo_a W.m (by omega) (zE7 hO sb j1 e)
    by_cases e3:(ia+1+1 == a.toArray.size)=true
    ·rw [if_pos e3]; exact wpS_pure ⟨rfl,.inl ⟨_,_,rfl,zGR m2 (by simpa using e3) hl⟩⟩
    rw [if_neg e3]
    have w2:Wl lt a b (ia+1) ib (out.push a[ia]):=⟨m2,by simp at e3; omega,j1⟩
    split
    ·exact wpS_pure ⟨rfl,.inr ⟨_,_,_,_,_,rfl,w2,by simp; omega⟩⟩
    ·exact wpS_pure ⟨_,_,_,_,_,rfl,rfl,w2,by simp; omega⟩
  ·rintro c st2 ⟨out,ia,ib,p,q,rfl,rfl,W,hsz⟩
   exact ⟨rfl,.inr ⟨_,_,_,_,_,rfl,W,by simp at hsz; omega⟩⟩
  rintro c st2 ⟨rfl,⟨r,o,rfl,hr⟩ | ⟨out,ia,ib,p,q,rfl,W,hsz⟩⟩
  ·exact wpS_pure ⟨r,_,rfl,hs,hr⟩
  dsimp only
  refine wpS_bind (wpS_lift (wpAny_rule ⟨rfl,?_⟩))
  refine wpS_bind (wpS_mono (wpS_forRange (I:=fun y c st'=>∃ out ia ib g p q,c=(none,out,ia,ib,g,p,q)∧Sg st st'∧Wl lt a b ia ib out∧x+2≤out.size)
   (Q:=fun c st'=>Sg st st'∧((∃ r o,c=(some r,o)∧Mg lt a b r.toList)∨∃ out ia ib g p q,c=(none,out,ia,ib,g,p,q)∧Wl lt a b ia ib out∧x+2≤out.size)) ?_ ?_ ⟨_,_,_,_,_,_,rfl,hs,W,hsz⟩) ?_)
  ·rintro y c st3 _ hy ⟨out,ia,ib,g,p,q,rfl,hs3,W,hsz⟩
   dsimp only
   have i1:=W.i
   have j1:=W.j
   by_cases hg:g>1
   case' pos=>rw [if_pos hg]
   case' neg=>rw [if_neg hg]
   all_goals
    refine wpS_bind (zM4 fun st4 s4=>?_)
    have hs4:=hs3.trans s4
    have hk4:kindOf st4=κ:=hs4.k.trans hk
    refine wpS_bind (zAh (x:=b[ib]) (by simp [j1]) ?_)
    refine wpS_bind (zGm hO hA hk4 (gb _ (qE3 _)) ga (sa.sublist ((qG1 ..).trans (qH2 ..))) (by simp; omega) (by simp; omega) fun k k1 k2 k3=>?_)
    simp only [qA8] at k1 k2 k3
    dsimp only
    have mk:MrgI lt a b (a.drop (ia+k)) (b.drop ib) (out++a.toArray.extract ia (ia+k)).toList :=
     zUg W.m (by omega) fun i hi=>zE7 hO sb j1 (by simpa [bq] using k2 i hi (by omega))
    have ck:ia+k<a.length→∀ y∈a.drop (ia+k),lt y b[ib]=false:=fun hl=>zE7 hO sa hl (hO.as _ _ (by simpa [bq] using k3 k (qB0 _) (by omega)))
    by_cases hk0:k>0
    case' pos =>
     rw [if_pos hk0]
     by_cases e3:(ia+k+1 == a.toArray.size)=true
     case pos=>rw [if_pos e3]; exact wpS_pure ⟨hs4,.inl ⟨_,_,rfl,zGR mk (by simpa using e3) hl⟩⟩
     rw [if_neg e3]
     by_cases e4:(ia+k == a.toArray.size)=true
     case pos=>rw [if_pos e4]; exact wpS_pure ⟨hs4,.inl ⟨_,_,rfl,zF5 mk (.inr (by simpa using e4))⟩⟩
     rw [if_neg e4]
     have i2:ia+k+1<a.length:=by simp at e3 e4; omega
     have ck:=ck (by omega)
     have hz:x+2≤(out++a.toArray.extract ia (ia+k)).size:=by rw [Array.size_append]; omega
     generalize out++a.toArray.extract ia (ia+k)=out at mk hz ⊢
     generalize ia+k=ia2 at mk i2 ck ⊢
    case' neg =>
     rw [if_neg hk0]
     have i2:ia+1<a.length:=i1
     have ck:∀ y∈a.drop ia,lt y b[ib]=false:=by
      have e0:k=0:=by omega
      subst e0
      exact ck (by omega)
     have mk:=W.m
     have hz:=hsz
     generalize ia=ia2 at mk i2 ck ⊢
    all_goals
     clear k1 k2 k3 W i1 hsz
     refine wpS_bind (zAh (x:=b[ib]) (by simp [j1]) ?_)
     have m3:=lo_b mk j1 ck
     by_cases e5:(ib+1 == b.toArray.size)=true
     case pos=>rw [if_pos e5]; exact wpS_pure ⟨hs4,.inl ⟨_,_,rfl,zF5 m3 (.inl (by simpa using e5))⟩⟩
     rw [if_neg e5]
     have j2:ib+1<b.length:=by simp at e5; omega
     refine wpS_bind (zAh (x:=a[ia2]) (by rw [qD3]; exact qA6 (by omega)) ?_)
     refine wpS_bind (zGm hO hA hk4 (ga _ (qE3 _)) gb (sb.sublist ((qG1 ..).trans (qH2 ..))) (by simp; omega) (by simp; omega) fun k k1 k2 k3=>?_)
     simp only [qA8] at k1 k2 k3
     dsimp only
     have mk2:MrgI lt a b (a.drop ia2) (b.drop (ib+1+k)) ((Array.push _ b[ib])++b.toArray.extract (ib+1) (ib+1+k)).toList :=
      zWW m3 (by omega) fun i hi=>zE7 hO sa (by omega) (hO.as _ _ (by simpa [bq] using k2 i hi (by omega)))
     have ck2:ib+1+k<b.length→∀ y∈b.drop (ib+1+k),lt y a[ia2]=false:=fun hl=>zE7 hO sb hl (by simpa [bq] using k3 k (qB0 _) (by omega))
     by_cases hk1:k>0
     case' pos =>
      rw [if_pos hk1]
      by_cases e6:(ib+1+k == b.toArray.size)=true
      case pos=>rw [if_pos e6]; exact wpS_pure ⟨hs4,.inl ⟨_,_,rfl,zF5 mk2 (.inl (by simpa using e6))⟩⟩
      rw [if_neg e6]
      have j3:ib+1+k<b.length:=by simp at e6; omega
      have m4:=lo_a mk2 (by omega) (ck2 j3)
     case' neg =>
      rw [if_neg hk1]
      have e0:k=0:=by omega
      subst e0
      have j3:=j2
      have m4:=lo_a m3 (by omega) (ck2 j3)
     all_goals
      refine wpS_bind (zAh (x:=a[ia2]) (by rw [qD3]; exact qA6 (by omega)) ?_)
      by_cases e7:(ia2+1+1 == a.toArray.size)=true
      case pos=>rw [if_pos e7]; exact wpS_pure ⟨hs4,.inl ⟨_,_,rfl,zGR m4 (by simpa using e7) hl⟩⟩
      rw [if_neg e7]
      have w5:Wl lt a b (ia2+1) _ _:=⟨m4,by simp at e7; omega,j3⟩
      split
      ·exact wpS_pure ⟨hs4,.inr ⟨_,_,_,_,_,_,rfl,w5,by simp; omega⟩⟩
      ·exact wpS_pure ⟨_,_,_,_,_,_,rfl,hs4,w5,by simp; omega⟩
  ·rintro c st2 ⟨out,ia,ib,g,p,q,rfl,hs3,W,hsz⟩
   exact ⟨hs3,.inr ⟨_,_,_,_,_,_,rfl,W,hsz⟩⟩
  rintro c st3 ⟨hs3,⟨r,o,rfl,hr⟩ | ⟨out,ia,ib,g,p,q,rfl,W,hsz⟩⟩
  ·exact wpS_pure ⟨r,_,rfl,hs3,hr⟩
  dsimp only
  exact wpS_bind (wpS_modify (wpS_pure ⟨_,_,_,_,rfl,⟨hs3.k,hs3.a,hs3.p,hs3.f⟩,W,by omega⟩))
 ·rintro c st1 ⟨out,ia,ib,g,rfl,hs,W,hsz⟩
  have:=zUf W.m (by have:=W.i; omega) (by have:=W.j; omega)
  have:=W.i
  have:=W.j
  simp at hsz
  omega
 ·rintro c st1 ⟨r,o,rfl,hs,hr⟩
  exact wpS_pure (h r st1 hs hr)
end
open PySem PySem.Spec PyProof.Rows
section
variable {lt:Keyed→Keyed→Bool}{a b:List Keyed}{na nb t:Nat}{out:Array Keyed}
theorem zM8 (h:na - 1<a.length) (h0:0<na):(a.take na).reverse=[a[na - 1]]++(a.take (na - 1)).reverse:=by
 obtain ⟨m,rfl⟩:∃ m,na=m+1:=⟨na - 1,by omega⟩
 simp only [qQ6] at h ⊢
 rw [List.take_succ_eq_append_getElem h,qQ0]; rfl
theorem zQw (h:t≤na):(a.take na).reverse=((a.drop t).take (na - t)).reverse++(a.take t).reverse:=by
 rw [← qQ0]
 congr 1
 rw [← List.drop_take]
 conv=>lhs; rw [← qD2 t (a.take na)]
 rw [List.take_take,qT1 h]
abbrev MH (lt:Keyed→Keyed→Bool) (a b:List Keyed) (na nb:Nat) (out:Array Keyed):Prop:=MrgI (fun x y=>lt y x) a b (a.take na).reverse (b.take nb).reverse out.toList
theorem zFD {x:Keyed} (hO:Swo lt) (sb:Srt lt b) (hi:nb - 1<b.length) (h:lt x b[nb - 1]=false):∀ y∈(b.take nb).reverse,lt x y=false:=by
 intro y hy
 rcases Nat.eq_zero_or_pos nb with rfl | h0
 ·simp at hy
 ·have s1:Srt lt (b.take nb):=sb.sublist (qG1 ..)
  have s2:(b.take nb).reverse.Pairwise fun x y=>lt x y=false:=qJ5.mpr s1
  rw [zM8 hi h0] at hy s2
  rcases qB3.mp hy with hy | hy
  ·rw [qA9.mp hy]; exact h
  ·exact hO.tr y b[nb - 1] x ((qC4.mp s2).2.2 _ (qF0 _) y hy) h
theorem zPB (a:List Keyed) (j:Nat):(a.toArray.extract 0 j).toList=a.take j:=by simp
theorem zUB (h:MH lt a b na nb out) (h1:na≤a.length) (h2:nb≤b.length):out.size+na+nb=a.length+b.length:=by
 have e:=h.pm.length_eq
 simp at e; omega
theorem Mg.rev {o:List Keyed} (h:Mg (fun x y=>lt y x) a b o):Mg lt a b o.reverse:=⟨o.reverse_perm.trans h.pm,h.so.rev⟩
theorem Mg.comm {o:List Keyed} (h:Mg lt b a o):Mg lt a b o:=⟨h.pm.trans qG5,h.so⟩
theorem zFk (h:MH lt a b na nb out) (e:na=0∨nb=0):Mg lt a b (a.toArray.extract 0 na++b.toArray.extract 0 nb++out.reverse).toList:=by
 rw [Array.toList_append,Array.toList_append,zPB,zPB,Array.toList_reverse]
 rcases e with rfl | rfl
 ·have:=(MrgI.fin (ra:=(b.take nb).reverse) (by simpa using h.swap)).rev.comm
  simpa using this
 ·unfold MH at h
  have:=(MrgI.fin (ra:=(a.take na).reverse) (by simpa using h)).rev
  simpa using this
theorem zEL (h:MH lt a b na nb out) (e:nb=1) (hb:0<b.length) (h0:∀ x∈a,lt x b[0]=false):Mg lt a b (b.toArray.extract 0 nb++a.toArray.extract 0 na++out.reverse).toList:=by
 rw [Array.toList_append,Array.toList_append,zPB,zPB,Array.toList_reverse]
 subst e
 have e1:b.take 1=[b[0]]:=by
  cases b with
  | nil=>simp at hb
  | cons x b=>simp
 have h':=h.swap
 rw [e1] at h' ⊢
 have:=(MrgI.last h' fun y hy=>h0 y (qH1 (qI8.mp hy))).rev.comm
 simpa using this
theorem hi_a (h:MH lt a b na nb out) (i1:na - 1<a.length) (i0:0<na) (k:∀ y∈(b.take nb).reverse,lt a[na - 1] y=false):MH lt a b (na - 1) nb (out.push a[na - 1]):=by
 unfold MH at h ⊢
 rw [zM8 i1 i0] at h
 rw [Array.toList_push]
 exact h.push fun x hx=>by rw [qA9.mp hx]; exact k
theorem zUC (h:MH lt a b na nb out) (ht:t≤na) (hn:na≤a.length) (q:∀ i,t≤i→(hi:i<na)→∀ y∈(b.take nb).reverse,lt (a[i]'(by omega)) y=false):MH lt a b t nb (out++(a.toArray.extract t na).reverse):=by
 unfold MH at h ⊢
 rw [zQw ht] at h
 rw [Array.toList_append,Array.toList_reverse,zKv]
 refine h.push fun x hx=>?_
 obtain ⟨i,hi,e⟩:=qH0.mp (qI8.mp hx)
 have hi':t+i<na:=by simp at hi; omega
 rw [← e]
 simpa using q (t+i) (by omega) hi'
end
section
variable {lt:Keyed→Keyed→Bool}{a b:List Keyed}{na nb t:Nat}{out:Array Keyed}
theorem hi_b (h:MH lt a b na nb out) (i1:nb - 1<b.length) (i0:0<nb) (k:∀ y∈(a.take na).reverse,lt b[nb - 1] y=false):MH lt a b na (nb - 1) (out.push b[nb - 1]) :=
 MrgI.swap (hi_a (MrgI.swap h) i1 i0 k)
theorem zX6 (h:MH lt a b na nb out) (ht:t≤nb) (hn:nb≤b.length) (q:∀ i,t≤i→(hi:i<nb)→∀ y∈(a.take na).reverse,lt (b[i]'(by omega)) y=false):MH lt a b na t (out++(b.toArray.extract t nb).reverse) :=
 MrgI.swap (zUC (MrgI.swap h) ht hn q)
structure Wh (lt:Keyed→Keyed→Bool) (a b:List Keyed) (na nb:Nat) (out:Array Keyed):Prop where
 m:MH lt a b na nb out
 i:0<na
 j:1<nb
 i':na<a.length
 j':nb≤b.length
end
section
variable {prog:Program}{w:World}{A:Around}{E:Value→Shared→Prop}{s:Shared}{κ:SortKind}{lt:Keyed→Keyed→Bool}{G:Keyed→Prop}{st:SortSt}
theorem zP8 {a b:List Keyed}{Q:Array Keyed→SortSt→Prop} (hO:Swo lt) (hA:Asks prog w A s κ lt G) (hk:kindOf st=κ) (ga:∀ x∈a,G x) (gb:∀ x∈b,G x) (sa:Srt lt a) (sb:Srt lt b)
  (ha:0<a.length) (hb:0<b.length) (h0:∀ x∈a,lt x b[0]=false) (hl:∀ y∈b,lt (a[a.length - 1]'(by omega)) y=false)
  (h:∀ out st',Sg st st'→Mg lt a b out.toList→Q out st'):wpS (model prog w) A E s (mergeHi' a.toArray b.toArray) Q st:=by
 have geA:∀ i,(hi:i<a.length)→a.toArray[i]?=some a[i]:=fun i hi=>by rw [qD3]; exact qA6 hi
 have geB:∀ i,(hi:i<b.length)→b.toArray[i]?=some b[i]:=fun i hi=>by rw [qD3]; exact qA6 hi
 refine wpS_bind (wpS_lift (wpAny_rule ⟨rfl,?_⟩))
 (try dsimp only)
 rw [show a.toArray.size=a.length from rfl,show b.toArray.size=b.length from rfl]
 refine wpS_bind (zAh (geA (a.length - 1) (by omega)) ?_)
 (try dsimp only)
 have m0:MH lt a b a.length b.length #[]:=by
  refine ⟨?_,.nil,?_,?_,fun x hx=>(by simp at hx),fun x hx=>(by simp at hx)⟩
  ·simpa using (a.reverse_perm.append b.reverse_perm)
  ·rw [qL8]; exact qJ5.mpr sa
  ·rw [qL8]; exact qJ5.mpr sb
 have m1:MH lt a b (a.length - 1) b.length #[a[a.length - 1]]:=hi_a m0 (by omega) ha fun y hy=>hl y (qH1 (qI8.mp hy))
 by_cases e1:(a.length - 1 == 0)=true
 ·rw [if_pos e1]; exact wpS_pure (h _ _ (.rfl _) (zFk m1 (.inl (by simpa using e1))))
 rw [if_neg e1]
 by_cases e2:(b.length == 1)=true
 ·rw [if_pos e2]; exact wpS_pure (h _ _ (.rfl _) (zEL m1 (by simpa using e2) hb h0))
 rw [if_neg e2]
 have w1:Wh lt a b (a.length - 1) b.length #[a[a.length - 1]]:=⟨m1,by simp at e1; omega,by simp at e2; omega,by omega,by omega⟩
 refine wpS_bind (wpS_get ?_)
 refine wpS_bind (wpS_mono (wpS_forRange (I:=fun x c st'=>∃ na nb out g,c=(none,na,nb,out,g)∧Sg st st'∧Wh lt a b na nb out∧x+1≤out.size)
  (Q:=fun c st'=>∃ r o,c=(some r,o)∧Sg st st'∧Mg lt a b r.toList) ?_ ?_ ⟨_,_,_,_,rfl,.rfl _,w1,by simp⟩) ?_)
 ·rintro x c st1 _ hx ⟨na,nb,out,g,rfl,hs,W,hsz⟩
  dsimp only
  have hk1:kindOf st1=κ:=hs.k.trans hk
  refine wpS_bind (wpS_mono (wpS_forRange (I:=fun y c st'=>∃ na nb out p q,c=(none,na,nb,out,p,q)∧st'=st1∧Wh lt a b na nb out∧x+1+y≤out.size)
   (Q:=fun c st'=>st'=st1∧((∃ r o,c=(some r,o)∧Mg lt a b r.toList)∨∃ na nb out p q,c=(none,na,nb,out,p,q)∧Wh lt a b na nb out∧x+2≤out.size)) ?_ ?_ ⟨_,_,_,_,_,rfl,rfl,W,by omega⟩) ?_)
  ·rintro y c st2 _ hy ⟨na,nb,out,p,q,rfl,rfl,⟨m,i1,j1,i2,j2⟩,hsz⟩
   dsimp only
   refine wpS_bind (zAh (geB (nb - 1) (by omega)) (wpS_bind (zAh (geA (na - 1) (by omega)) (wpS_bind (zM5 hA hk1 (gb _ (qE3 _)) (ga _ (qE3 _)) ?_)))))
   cases e:lt b[nb - 1] a[na - 1] with
   | true =>
    refine wpS_bind (zAh (geA (na - 1) (by omega)) ?_)
    have m2:=hi_a m (by omega) i1 (zFD hO sb (by omega) (hO.as _ _ e))
    by_cases e3:(na - 1 == 0)=true
    ·rw [if_pos e3]; exact wpS_pure ⟨rfl,.inl ⟨_,_,rfl,zFk m2 (.inl (by simpa using e3))⟩⟩
    rw [if_neg e3]
    have w2:Wh lt a b (na - 1) nb (out.push a[na - 1]):=⟨m2,by simp at e3; omega,j1,by omega,j2⟩
    split
    ·exact wpS_pure ⟨rfl,.inr ⟨_,_,_,_,_,rfl,w2,by simp; omega⟩⟩
    ·exact wpS_pure ⟨_,_,_,_,_,rfl,rfl,w2,by simp; omega⟩
   | false =>
    refine wpS_bind (zAh (geB (nb - 1) (by omega)) ?_)
    have m2:=hi_b m (by omega) (by omega) (zFD hO sa (by omega) e)
    by_cases e3:(nb - 1 == 1)=true
    ·rw [if_pos e3]; exact wpS_pure ⟨rfl,.inl ⟨_,_,rfl,zEL m2 (by simpa using e3) hb h0⟩⟩
    rw [if_neg e3]
    have w2:Wh lt a b na (nb - 1) (out.push b[nb - 1]):=⟨m2,i1,by simp at e3; omega,i2,by omega⟩
    split
    ·exact wpS_pure ⟨rfl,.inr ⟨_,_,_,_,_,rfl,w2,by simp; omega⟩⟩
    ·exact wpS_pure ⟨_,_,_,_,_,rfl,rfl,w2,by simp; omega⟩
  ·rintro c st2 ⟨na,nb,out,p,q,rfl,rfl,W,hsz⟩
   exact ⟨rfl,.inr ⟨_,_,_,_,_,rfl,W,by simp at hsz; omega⟩⟩
  rintro c st2 ⟨rfl,⟨r,o,rfl,hr⟩ | ⟨na,nb,out,p,q,rfl,W,hsz⟩⟩
  ·exact wpS_pure ⟨r,_,rfl,hs,hr⟩
  dsimp only
  refine wpS_bind (wpS_lift (wpAny_rule ⟨rfl,?_⟩))
  refine wpS_bind (wpS_mono (wpS_forRange (I:=fun y c st'=>∃ na nb out g p q,c=(none,na,nb,out,g,p,q)∧Sg st st'∧Wh lt a b na nb out∧x+2≤out.size)
   (Q:=fun c st'=>Sg st st'∧((∃ r o,c=(some r,o)∧Mg lt a b r.toList)∨∃ na nb out g p q,c=(none,na,nb,out,g,p,q)∧Wh lt a b na nb out∧x+2≤out.size)) ?_ ?_ ⟨_,_,_,_,_,_,rfl,hs,W,hsz⟩) ?_)
  ·rintro y c st3 _ hy ⟨na,nb,out,g,p,q,rfl,hs3,⟨m,i1,j1,i2,j2⟩,hsz⟩
   dsimp only
   by_cases hg:g>1
   case' pos=>rw [if_pos hg]
   case' neg=>rw [if_neg hg]
   all_goals
    refine wpS_bind (zM4 fun st4 s4=>?_)
    have hs4:=hs3.trans s4
    have hk4:kindOf st4=κ:=hs4.k.trans hk
    refine wpS_bind (zAh (geB (nb - 1) (by omega)) ?_)
    refine wpS_bind (zGm hO hA hk4 (gb _ (qE3 _)) ga (sa.sublist ((qG1 ..).trans (qH2 ..))) (by omega) (by omega) fun k k1 k2 k3=>?_)
    simp only [qM8] at k2 k3
    dsimp only
    have mk:MH lt a b k nb (out++(a.toArray.extract k na).reverse):=zUC m k1 (by omega) fun i hi1 hi=>zFD hO sb (by omega) (hO.as _ _ (by simpa [bq] using k3 i hi1 hi))
    have ck:0<k→∀ y∈(a.take k).reverse,lt b[nb - 1] y=false:=fun hl=>zFD hO sa (by omega) (by simpa [bq] using k2 (k - 1) (by omega) (by omega))
    by_cases hk0:na - k>0
    case' pos =>
     rw [if_pos hk0]
     by_cases e3:(k == 0)=true
     case pos=>rw [if_pos e3]; exact wpS_pure ⟨hs4,.inl ⟨_,_,rfl,zFk mk (.inl (by simpa using e3))⟩⟩
     rw [if_neg e3]
     have i3:0<k:=by simp at e3; omega
     have i4:k<a.length:=by omega
     have ck:=ck i3
     have hz:x+2≤(out++(a.toArray.extract k na).reverse).size:=by rw [Array.size_append]; omega
     generalize out++(a.toArray.extract k na).reverse=out at mk hz ⊢
     clear k1 k2 k3
     generalize hd:na - k=d
     clear hd hk0
     generalize k=na2 at mk i3 i4 ck ⊢
    case' neg =>
     rw [if_neg hk0]
     have e0:k=na:=by omega
     subst e0
     have i3:=i1
     have i4:=i2
     have ck:=ck i1
     have mk:=m
     have hz:=hsz
     clear k1 k2 k3 hk0
     generalize hd:k - k=d
     clear hd
     generalize k=na2 at mk i3 i4 ck ⊢
    all_goals
     clear m hsz
     refine wpS_bind (zAh (geB (nb - 1) (by omega)) ?_)
     have m3:=hi_b mk (by omega) (by omega) ck
     by_cases e5:(nb - 1 == 1)=true
     case pos=>rw [if_pos e5]; exact wpS_pure ⟨hs4,.inl ⟨_,_,rfl,zEL m3 (by simpa using e5) hb h0⟩⟩
     rw [if_neg e5]
     have j3:1<nb - 1:=by simp at e5; omega
     refine wpS_bind (zAh (geA (na2 - 1) (by omega)) ?_)
     refine wpS_bind (zGm hO hA hk4 (ga _ (qE3 _)) gb (sb.sublist ((qG1 ..).trans (qH2 ..))) (by omega) (by omega) fun k k1 k2 k3=>?_)
     simp only [qM8] at k2 k3
     dsimp only
     have mk2:MH lt a b na2 k ((Array.push _ b[nb - 1])++(b.toArray.extract k (nb - 1)).reverse) :=
      zX6 m3 k1 (by omega) fun i hi1 hi=>zFD hO sa (by omega) (by simpa [bq] using k3 i hi1 hi)
     have ck2:0<k→∀ y∈(b.take k).reverse,lt a[na2 - 1] y=false:=fun hl=>zFD hO sb (by omega) (hO.as _ _ (by simpa [bq] using k2 (k - 1) (by omega) (by omega)))
     by_cases hk1:nb - 1 - k>0
     case' pos =>
      rw [if_pos hk1]
      by_cases e6:(k == 1)=true
      case pos=>rw [if_pos e6]; exact wpS_pure ⟨hs4,.inl ⟨_,_,rfl,zEL mk2 (by simpa using e6) hb h0⟩⟩
      rw [if_neg e6]
      by_cases e8:(k == 0)=true
      case pos=>rw [if_pos e8]; exact wpS_pure ⟨hs4,.inl ⟨_,_,rfl,zFk mk2 (.inr (by simpa using e8))⟩⟩
      rw [if_neg e8]
      have j4:1<k:=by simp at e6 e8; omega
      have j5:k≤b.length:=by omega
      have m4:=hi_a mk2 (by omega) i3 (ck2 (by omega))
     case' neg =>
      rw [if_neg hk1]
      have e0:k=nb - 1:=by omega
      subst e0
      have j4:=j3
      have j5:nb - 1≤b.length:=by omega
      have m4:=hi_a m3 (by omega) i3 (ck2 (by omega))
     all_goals
      refine wpS_bind (zAh (geA (na2 - 1) (by omega)) ?_)
      by_cases e7:(na2 - 1 == 0)=true
      case pos=>rw [if_pos e7]; exact wpS_pure ⟨hs4,.inl ⟨_,_,rfl,zFk m4 (.inl (by simpa using e7))⟩⟩
      rw [if_neg e7]
      have w5:Wh lt a b (na2 - 1) _ _:=⟨m4,by simp at e7; omega,j4,by omega,j5⟩
      split
      ·exact wpS_pure ⟨hs4,.inr ⟨_,_,_,_,_,_,rfl,w5,by simp; omega⟩⟩
      ·exact wpS_pure ⟨_,_,_,_,_,_,rfl,hs4,w5,by simp; omega⟩
  ·rintro c st2 ⟨na,nb,out,g,p,q,rfl,hs3,W,hsz⟩
   exact ⟨hs3,.inr ⟨_,_,_,_,_,_,rfl,W,hsz⟩⟩
  rintro c st3 ⟨hs3,⟨r,o,rfl,hr⟩ | ⟨na,nb,out,g,p,q,rfl,W,hsz⟩⟩
  ·exact wpS_pure ⟨r,_,rfl,hs3,hr⟩
  dsimp only
  exact wpS_bind (wpS_modify (wpS_pure ⟨_,_,_,_,rfl,⟨hs3.k,hs3.a,hs3.p,hs3.f⟩,W,by omega⟩))
 ·rintro c st1 ⟨na,nb,out,g,rfl,hs,W,hsz⟩
  have:=zUB W.m (by have:=W.i'; omega) W.j'
  have:=W.i
  have:=W.j
  simp at hsz
  omega
 ·rintro c st1 ⟨r,o,rfl,hs,hr⟩
  exact wpS_pure (h r st1 hs hr)
end
open PySem PySem.Spec PyProof.Rows
noncomputable abbrev Pend:=Nat × Nat × Nat
noncomputable abbrev SS (κ:SortKind) (l:List Keyed) (p:List Pend) (g:Nat):SortSt:=SortSt.mk' κ l.toArray p.toArray g none
theorem Sg.ss {κ:SortKind}{l:List Keyed}{p:List Pend}{g:Nat}{st':SortSt} (h:Sg (SS κ l p g) st'):∃ g',st'=SS κ l p g':=by
 obtain ⟨k,a,b,c⟩:=h
 cases st'
 cases k; cases a; cases b; cases c
 exact ⟨_,Eq.refl _⟩
theorem zQo {M:Model}{A:Around}{E:Value→Shared→Prop}{s:Shared}{σ:Type}{Q:PUnit→σ→Prop}{st st2:σ} (h:Q ⟨⟩ st2):wpS M A E s (set st2:StateT σ Sem PUnit) Q st:=by
 unfold wpS; rw [StateT.run_set]; exact wpAny_pure ⟨rfl,h⟩
theorem zOR (p1 p2:List Pend) (u v z:Pend):((p1++u::v::p2).toArray.setIfInBounds p1.length z).eraseIdxIfInBounds (p1.length+1)=(p1++z::p2).toArray:=by
 apply Array.ext'
 rw [Array.eraseIdxIfInBounds_eq]
 simp [List.eraseIdx_append_of_length_le]
theorem zQm (pre M post:List Keyed):∀ (N:List Keyed) (i:Nat) (pr:List Keyed),pr.length=pre.length+i→N.length=M.length →
  (M.zipIdx i).foldl (fun (a:Array Keyed) (q:Keyed × Nat)=>a.setIfInBounds (pre.length+q.2) q.1) (pr++(N++post)).toArray=(pr++(M++post)).toArray:=by
 induction M with
 | nil=>intro N i pr h1 h2; have:N=[]:=qE6.mp h2; subst this; rfl
 | cons m M ih =>
  intro N i pr h1 h2
  cases N with
  | nil=>simp at h2
  | cons n N =>
   rw [qR8,List.foldl_cons]
   have e:((pr++(n::N++post)).toArray.setIfInBounds (pre.length+i) m)=((pr++[m])++(N++post)).toArray:=by
    rw [← h1]; apply Array.ext'; simp
   show List.foldl _ ((pr++(n::N++post)).toArray.setIfInBounds (pre.length+i) m) _=_
   rw [e,ih N (i+1) (pr++[m]) (by simp; omega) (by simpa using h2)]
   simp
theorem zX1 {lt:Keyed→Keyed→Bool}{X Y M:List Keyed}{k n:Nat}{y0 xl:Keyed} (hO:Swo lt) (sx:Srt lt X) (sy:Srt lt Y) (h0:∀ y∈Y,lt y y0=false) (hl:∀ x∈X,lt xl x=false)
  (c1:∀ x∈X.take k,lt y0 x=false) (c2:∀ y∈Y.drop n,lt y xl=false) (hM:Mg lt (X.drop k) (Y.take n) M):Mg lt X Y (X.take k++(M++Y.drop n)):=by
 have sX:Srt lt (X.take k++X.drop k):=by rw [qD2]; exact sx
 have sY:Srt lt (Y.take n++Y.drop n):=by rw [qD2]; exact sy
 obtain ⟨x1,x2,x3⟩:=qC4.mp sX
 obtain ⟨y1,y2,y3⟩:=qC4.mp sY
 refine ⟨?_,qC4.mpr ⟨x1,qC4.mpr ⟨hM.so,y2,fun m hm y hy=>?_⟩,fun x hx m hm=>?_⟩⟩
 ·have e:X++Y=X.take k++(X.drop k++Y.take n++Y.drop n):=by
   rw [qB8,qD2,← qB8,qD2]
  rw [e]
  exact (List.Perm.refl _).append (hM.pm.append (List.Perm.refl _))
 ·rcases qB3.mp (hM.pm.mem_iff.mp hm) with hm | hm
  ·exact hO.tr m xl y (hl m (qG9 hm)) (c2 y hy)
  ·exact y3 m hm y hy
 ·have q:∀ y∈Y,lt y x=false:=fun y hy=>hO.tr x y0 y (c1 x hx) (h0 y hy)
  rcases qB3.mp hm with hm | hm
  ·rcases qB3.mp (hM.pm.mem_iff.mp hm) with hm | hm
   ·exact x3 x hx m hm
   ·exact q m (qH1 hm)
  ·exact q m (qG9 hm)
theorem zDw {l:List Keyed}{n:Nat}{x:Keyed} (h:x∈l.take n):∃ i,∃ hi:i<l.length,i<n∧l[i]=x:=by
 obtain ⟨i,hi,e⟩:=qH0.mp h
 refine ⟨i,by simp at hi; omega,by simp at hi; omega,by simpa using e⟩
theorem zDy {l:List Keyed}{n:Nat}{x:Keyed} (h:x∈l.drop n):∃ i,∃ hi:i<l.length,n≤i∧l[i]=x:=by
 obtain ⟨i,hi,e⟩:=qH0.mp h
 refine ⟨n+i,by simp at hi; omega,by omega,by simpa using e⟩
theorem zNk {lt:Keyed→Keyed→Bool}{l:List Keyed} (hO:Swo lt) (sl:Srt lt l) (h:0<l.length):∀ y∈l,lt y l[0]=false:=fun y hy=>zE7 hO sl h (hO.rf _) y (by simpa using hy)
theorem zGT {lt:Keyed→Keyed→Bool}{l:List Keyed} (hO:Swo lt) (sl:Srt lt l) (h:0<l.length):∀ y∈l,lt (l[l.length - 1]'(by omega)) y=false:=fun y hy=>zFD (nb:=l.length) hO sl (by omega) (hO.rf _) y (by simpa using hy)
section
variable {prog:Program}{w:World}{A:Around}{E:Value→Shared→Prop}{s:Shared}{κ:SortKind}{lt:Keyed→Keyed→Bool}{G:Keyed→Prop}{st:SortSt}
theorem zP9 {pre X Y post:List Keyed}{p1 p2:List Pend}{pw q g i sb:Nat}{Q:Bool→SortSt→Prop} (hO:Swo lt) (hA:Asks prog w A s κ lt G) (gl:∀ x∈pre++(X++(Y++post)),G x) (sx:Srt lt X) (sy:Srt lt Y) (hx:0<X.length) (hy:0<Y.length) (hsb:sb=pre.length+X.length) (hi:i=p1.length)
  (h:∀ Z g',Mg lt X Y Z→Q true (SS κ (pre++(Z++post)) (p1++(pre.length,X.length+Y.length,pw)::p2) g')) :
  wpS (model prog w) A E s (mergeAt' i) Q (SS κ (pre++(X++(Y++post))) (p1++(pre.length,X.length,pw)::(sb,Y.length,q)::p2) g):=by
 subst hi hsb
 have ga:∀ j x,(pre++(X++(Y++post)))[j]?=some x→(pre++(X++(Y++post))).toArray[j]?=some x:=fun j x e=>by rw [qD3]; exact e
 refine wpS_bind (wpS_get ?_)
 have e1:(p1++(pre.length,X.length,pw)::(pre.length+X.length,Y.length,q)::p2).toArray[p1.length]?=some (pre.length,X.length,pw):=by simp
 have e2:(p1++(pre.length,X.length,pw)::(pre.length+X.length,Y.length,q)::p2).toArray[p1.length+1]?=some (pre.length+X.length,Y.length,q):=by simp
 dsimp only [SS]
 rw [e1,e2]
 dsimp only
 rw [zOR]
 refine wpS_bind (zQo ?_)
 have gY:∀ j,(hj:j<Y.length)→(pre++(X++(Y++post)))[pre.length+X.length+j]?=some Y[j]:=fun j hj=>by
  rw [qA0 (by omega),qA0 (by omega),qA7 (by omega),← qA6 hj]; congr 1; omega
 have gX:∀ j,(hj:j<X.length)→(pre++(X++(Y++post)))[pre.length+j]?=some X[j]:=fun j hj=>by
  rw [qA0 (by omega),qA7 (by omega),← qA6 hj]; congr 1; omega
 have hlen:(pre++(X++(Y++post))).length=pre.length+X.length+Y.length+post.length:=by simp; omega
 have gY':∀ j,(hj:j<Y.length)→(pre++(X++(Y++post)))[pre.length+X.length+j]'(by omega)=Y[j]:=fun j hj=>(qA1.mp (gY j hj)).2
 have gX':∀ j,(hj:j<X.length)→(pre++(X++(Y++post)))[pre.length+j]'(by omega)=X[j]:=fun j hj=>(qA1.mp (gX j hj)).2
 have dX:((pre++(X++(Y++post))).drop pre.length).take X.length=X:=by simp
 have dY:((pre++(X++(Y++post))).drop (pre.length+X.length)).take Y.length=Y:=by
  rw [← qB8,← qB2]; simp
 have inl:∀ x∈X,G x:=fun x hx=>gl x (by simp [hx])
 have inr:∀ x∈Y,G x:=fun x hx=>gl x (by simp [hx])
 have fin:∀ g',Mg lt X Y (X++Y)→Q true (SS κ (pre++(X++(Y++post))) (p1++(pre.length,X.length+Y.length,pw)::p2) g'):=fun g' hm=>by
  have:=h (X++Y) g' hm
  rwa [qB8] at this
 refine wpS_bind (zAh (ga (pre.length+X.length) Y[0] (gY 0 hy)) ?_)
 refine wpS_bind (zGm hO hA rfl (inr _ (qE3 _)) gl (by rw [dX]; exact sx) (by omega) hx fun k k1 k2 k3=>?_)
 dsimp only
 have c1:∀ x∈X.take k,lt Y[0] x=false:=fun x hx=>by
  obtain ⟨i,hi,hik,rfl⟩:=zDw hx
  have:=k2 i hik hi
  rw [gX' i hi] at this
  simpa [bq] using this
 have h0:=zNk hO sy hy
 have hl:=zGT hO sx hx
 by_cases e3:(X.length - k == 0)=true
 ·rw [if_pos e3]
  have hk:X.length≤k:=by simp at e3; omega
  refine wpS_pure (fin _ ⟨.refl _,qC4.mpr ⟨sx,sy,fun x hx' y hy'=>hO.tr x Y[0] y (c1 x ?_) (h0 y hy')⟩⟩)
  rw [qF1 hk]; exact hx'
 rw [if_neg e3]
 have hk:k<X.length:=by simp at e3; omega
 rw [show pre.length+k+(X.length - k) - 1=pre.length+(X.length - 1) by omega]
 refine wpS_bind (zAh (ga _ (X[X.length - 1]) (gX (X.length - 1) (by omega))) ?_)
 refine wpS_bind (zGm hO hA rfl (inl _ (qE3 _)) gl (by rw [dY]; exact sy) (by omega) (by omega) fun n n1 n2 n3=>?_)
 dsimp only
 have c2:∀ y∈Y.drop n,lt y X[X.length - 1]=false:=fun y hy'=>by
  obtain ⟨i,hi,hik,rfl⟩:=zDy hy'
  have:=n3 i hik hi
  rw [gY' i hi] at this
  simpa [bq] using this
 by_cases e4:(n == 0)=true
 ·rw [if_pos e4]
  have hn:n=0:=by simpa using e4
  subst hn
  exact wpS_pure (fin _ ⟨.refl _,qC4.mpr ⟨sx,sy,fun x hx' y hy'=>hO.tr x _ y (hl x hx') (c2 y (by simpa using hy'))⟩⟩)
 rw [if_neg e4]
 have hn:0<n:=by simp at e4; omega
 have x2:(pre++(X++(Y++post))).toArray.extract (pre.length+k) (pre.length+X.length)=(X.drop k).toArray:=by
  apply Array.ext'
  rw [zKv,← qP6]
  simp only [qT2]
  rw [List.drop_append_of_le_length (by omega),qM2 (by simp; omega)]
  exact qF1 (by simp; omega)
 have y1:(pre++(X++(Y++post))).toArray.extract (pre.length+X.length) (pre.length+X.length+n)=(Y.take n).toArray:=by
  apply Array.ext'
  rw [zKv,← qP6]
  simp only [qT2]
  rw [show pre.length+X.length+n - (pre.length+X.length)=n by omega,qM2 n1]
 rw [x2,y1]
 have f0:∀ x∈X.drop k,lt x ((Y.take n)[0]'(by simp; omega))=false:=fun x hx'=>by
  obtain ⟨i,hi,hik,rfl⟩:=zDy hx'
  have:=k3 i hik hi
  rw [gX' i hi] at this
  have e:(Y.take n)[0]'(by simp; omega)=Y[0]:=by simp
  rw [e]
  exact hO.as _ _ (by simpa [bq] using this)
 have fl:∀ y∈Y.take n,lt ((X.drop k)[(X.drop k).length - 1]'(by simp; omega)) y=false:=fun y hy'=>by
  obtain ⟨i,hi,hik,rfl⟩:=zDw hy'
  have:=n2 i hik hi
  rw [gY' i hi] at this
  have e:(X.drop k)[(X.drop k).length - 1]'(by simp; omega)=X[X.length - 1]:=by
   simp only [qL1]; congr 1; simp; omega
  rw [e]
  exact hO.as _ _ (by simpa [bq] using this)
 have after:∀ (out:Array Keyed) g',Mg lt (X.drop k) (Y.take n) out.toList→Q true (SS κ (pre++((X.take k++(out.toList++Y.drop n))++post)) (p1++(pre.length,X.length+Y.length,pw)::p2) g'):=fun out g' hm=>h _ g' (zX1 hO sx sy h0 hl c1 c2 hm)
 have fo:∀ (out:Array Keyed),Mg lt (X.drop k) (Y.take n) out.toList→out.toList.zipIdx.foldl (fun (a:Array Keyed) (x:Keyed × Nat)=>a.setIfInBounds (pre.length+k+x.2) x.1) (pre++(X++(Y++post))).toArray=(pre++((X.take k++(out.toList++Y.drop n))++post)).toArray:=fun out hm=>by
  have e:=zQm (pre++X.take k) out.toList (Y.drop n++post) (X.drop k++Y.take n) 0 (pre++X.take k) (by simp) hm.pm.length_eq.symm
  have e5:(pre++X.take k).length=pre.length+k:=by simp; omega
  have e6:pre++X.take k++(X.drop k++Y.take n++(Y.drop n++post))=pre++(X++(Y++post)):=by
   conv=>rhs; rw [← qD2 k X,← qD2 n Y]
   simp only [qB8]
  have e7:pre++X.take k++(out.toList++(Y.drop n++post))=pre++((X.take k++(out.toList++Y.drop n))++post):=by simp only [qB8]
  rw [e5,e6,e7] at e
  exact e
 by_cases hc:X.length - k≤n
 case' pos =>
  rw [if_pos hc]
  refine wpS_bind (zP7 (a:=X.drop k) (b:=Y.take n) hO hA rfl (fun x hx'=>inl x (qG9 hx')) (fun x hx'=>inr x (qH1 hx')) (sx.sublist (qH2 ..)) (sy.sublist (qG1 ..)) (by simp; omega) (by simp; omega) f0 fl fun out st' hs hm=>?_)
 case' neg =>
  rw [if_neg hc]
  refine wpS_bind (zP8 (a:=X.drop k) (b:=Y.take n) hO hA rfl (fun x hx'=>inl x (qG9 hx')) (fun x hx'=>inr x (qH1 hx')) (sx.sublist (qH2 ..)) (sy.sublist (qG1 ..)) (by simp; omega) (by simp; omega) f0 fl fun out st' hs hm=>?_)
 all_goals
  obtain ⟨g',rfl⟩:=hs.ss
  refine wpS_bind (wpS_modify (wpS_bind (wpS_get (wpS_pure ?_))))
  have:=after out g' hm
  rw [SS,← fo out hm] at this
  exact this
end
open PySem PySem.Spec PyProof.Rows
theorem zL4 (P T U:List Keyed):mirror (P++(T++U)).toArray P.length (P.length+T.length) ((P.length+T.length - P.length) / 2)=(P++(T.reverse++U)).toArray:=by
 apply Array.ext_getElem?
 intro k
 rw [getElem?_mirror_all (by simp)]
 simp only [qD3]
 by_cases h:P.length≤k∧k<P.length+T.length
 ·rw [if_pos h,qA0 (by omega),qA7 (by omega),qA0 (by omega),qA7 (by simp; omega),List.getElem?_reverse (by omega)]
  congr 1; omega
 ·rw [if_neg h]
  by_cases h1:k<P.length
  ·rw [qA7 h1,qA7 h1]
  ·rw [qA0 (by omega),qA0 (by omega),qA0 (by omega),qA0 (by simp; omega)]
   simp
theorem zLG (P T U:List Keyed) (e:Keyed):bubble (P++(T++(e::U))).toArray (P.length+T.length) T.length=(P++(e::(T++U))).toArray:=by
 apply Array.ext_getElem?
 intro k
 rw [getElem?_bubble (by simp) _ (by omega)]
 simp only [qD3,qQ6]
 by_cases h:k=P.length
 ·rw [if_pos h,qA0 (by omega),qA0 (by omega),qA0 (by omega),h]
  simp
 ·rw [if_neg h]
  by_cases h1:P.length<k∧k≤P.length+T.length
  ·rw [if_pos h1,qA0 (by omega),qA7 (by omega),qA0 (by omega)]
   obtain ⟨m,rfl⟩:∃ m,k=P.length+m+1:=⟨k - P.length - 1,by omega⟩
   rw [show P.length+m+1 - P.length=m+1 by omega,qD6,qA7 (by omega)]
   congr 1; omega
  ·rw [if_neg h1]
   by_cases h2:k<P.length
   ·rw [qA7 h2,qA7 h2]
   ·obtain ⟨m,rfl⟩:∃ m,k=P.length+T.length+m+1:=⟨k - P.length - T.length - 1,by omega⟩
    rw [qA0 (by omega),qA0 (by omega),qA0 (by omega),show P.length+T.length+m+1 - P.length - T.length=m+1 by omega,show P.length+T.length+m+1 - P.length=T.length+m+1 by omega,qD6,qD6,qA0 (by omega)]
    congr 1; omega
section
variable {prog:Program}{w:World}{A:Around}{E:Value→Shared→Prop}{s:Shared}{κ:SortKind}{lt:Keyed→Keyed→Bool}{G:Keyed→Prop}{p:List Pend}{g:Nat}
theorem zM6 {l:List Keyed}{i j:Nat}{x y:Keyed}{Q:Option Bool→SortSt→Prop} (hA:Asks prog w A s κ lt G) (gl:∀ x∈l,G x) (hx:l[i]?=some x) (hy:l[j]?=some y) (h:Q (some (lt x y)) (SS κ l p g)):wpS (model prog w) A E s (ltAt' i j) Q (SS κ l p g):=by
 rw [ltAt'_eq]
 refine wpS_bind (wpS_get ?_)
 refine wpS_bind (zAh (show l.toArray[i]?=some x by rw [qD3]; exact hx) (wpS_bind (zAh (show l.toArray[j]?=some y by rw [qD3]; exact hy) ?_)))
 exact zM5 hA rfl (gl x (qB5 hx)) (gl y (qB5 hy)) h
theorem zHs {P T U:List Keyed}{i j:Nat}{Q:Unit→SortSt→Prop} (hi:i=P.length) (hj:j=P.length+T.length) (h:Q () (SS κ (P++(T.reverse++U)) p g)):wpS (model prog w) A E s (reverseSlice' i j) Q (SS κ (P++(T++U)) p g):=by
 subst hi hj
 rw [reverseSlice'_eq]
 refine wpS_modify ?_
 have e:setArr (SS κ (P++(T++U)) p g) (mirror (arrOf (SS κ (P++(T++U)) p g)) P.length (P.length+T.length) ((P.length+T.length - P.length) / 2))=SS κ (P++(T.reverse++U)) p g:=by
  show SortSt.mk' κ (mirror (P++(T++U)).toArray _ _ _) _ _ _=_
  rw [zL4]
 rw [e]; exact h
theorem zQu {P T U:List Keyed}{e:Keyed}{i j:Nat}{Q:Unit→SortSt→Prop} (hi:i=P.length+T.length) (hj:j=P.length) (h:Q () (SS κ (P++(e::(T++U))) p g)):wpS (model prog w) A E s (moveDown' i j) Q (SS κ (P++(T++(e::U))) p g):=by
 subst hi hj
 rw [moveDown'_eq]
 refine wpS_modify ?_
 have e1:setArr (SS κ (P++(T++(e::U))) p g) (bubble (arrOf (SS κ (P++(T++(e::U))) p g)) (P.length+T.length) (P.length+T.length - P.length))=SS κ (P++(e::(T++U))) p g:=by
  show SortSt.mk' κ (bubble (P++(T++(e::U))).toArray _ _) _ _ _=_
  rw [qK6,zLG]
 rw [e1]; exact h
theorem zKJ {pre D U:List Keyed}{lo n:Nat}{Q:Option (Option Nat) × Nat→SortSt→Prop} (hO:Swo lt) (hA:Asks prog w A s κ lt G) (gl:∀ x∈pre++(D++U),G x) (hlo:lo=pre.length) (hn:n=D.length+U.length) (hD:0<D.length) (sD:Srt lt D)
  (h:∀ V W,U=V++W→Srt lt (D++V)→(W=[]∨∃ e W',W=e::W'∧∃ z,(D++V)[(D++V).length - 1]?=some z∧lt e z=true)→Q (none,D.length+V.length) (SS κ (pre++(D++U)) p g)) :
  wpS (model prog w) A E s (forIn [D.length:n] (none,D.length) fun _ (c:Option (Option Nat) × Nat)=>ltAt' (lo+c.2) (lo+c.2 - 1) >>= fun r=>match r with
   | some smaller=>if smaller=true then pure (ForInStep.done (none,c.2)) else pure (ForInStep.yield (none,c.2+1))
   | _=>pure (ForInStep.done (some none,c.2))) Q (SS κ (pre++(D++U)) p g):=by
 subst hlo hn
 refine wpS_forRange (I:=fun x c st'=>st'=SS κ (pre++(D++U)) p g∧c=(none,x)∧∃ V W,U=V++W∧x=D.length+V.length∧Srt lt (D++V)) ?_ ?_ ⟨rfl,rfl,[],U,rfl,rfl,by simpa using sD⟩
 ·rintro x c st' _ hx ⟨rfl,rfl,V,W,rfl,rfl,sV⟩
  dsimp only
  cases W with
  | nil=>simp at hx
  | cons e W =>
   have hz:(D++V).length - 1<(D++V).length:=by simp; omega
   obtain ⟨z,ez⟩:∃ z,(D++V)[(D++V).length - 1]?=some z:=⟨_,qA6 hz⟩
   have ez':=ez
   rw [qB2] at ez'
   refine wpS_bind (zM6 hA gl (x:=e) (y:=z) ?_ ?_ ?_)
   ·rw [qA0 (by omega),qA0 (by omega),qA0 (by omega)]
    rw [show pre.length+(D.length+V.length) - pre.length - D.length - V.length=0 by omega]; rfl
   ·rw [← qB8 D,qA0 (by omega),qA7 (by simp; omega),← ez']; congr 1; omega
   ·cases e1:lt e z with
    | true=>exact wpS_pure (h V (e::W) rfl sV (.inr ⟨e,W,rfl,z,ez,e1⟩))
    | false =>
     refine wpS_pure ⟨rfl,rfl,V++[e],W,by simp,by simp; omega,?_⟩
     rw [← qB8]
     refine qC4.mpr ⟨sV,qE7 ..,fun u hu v hv=>?_⟩
     have:=qA9.mp hv
     subst this
     have q:=zGT hO sV (by simp; omega) u hu
     rw [← (qA1.mp ez).2] at e1
     exact hO.tr _ _ _ q e1
 ·rintro c st' ⟨rfl,rfl,V,W,rfl,hx,sV⟩
  have:W=[]:=by
   cases W with
   | nil=>rfl
   | cons e W=>simp at hx
  subst this
  rw [hx]
  exact h V [] rfl sV (.inl rfl)
end
open PySem PySem.Spec PyProof.Rows
structure Dsc (lt:Keyed→Keyed→Bool) (R D1 T U:List Keyed):Prop where
 pm:(D1++(T++U)).Perm R
 ds:Srt (fun x y=>lt y x) (D1++T)
 t0:0<T.length
 eq:∀ u∈T,∀ v∈T,lt u v=false
section
variable {lt:Keyed→Keyed→Bool}{R D1 T U:List Keyed}{e t:Keyed}
theorem Dsc.last (h:Dsc lt R D1 T (e::U)) (hO:Swo lt) (ht:(D1++T)[(D1++T).length - 1]?=some t) (k:lt t e=false):∀ d∈D1++T,lt d e=false:=by
 intro d hd
 have q:=zGT (lt:=fun x y=>lt y x) hO.flip h.ds (by have:=h.t0; simp; omega) d hd
 rw [(qA1.mp ht).2] at q
 exact hO.tr e t d k q
theorem Dsc.rev (h:Dsc lt R D1 T U):Srt (fun x y=>lt y x) (D1++T.reverse):=by
 obtain ⟨a,b,c⟩:=qC4.mp h.ds
 refine qC4.mpr ⟨a,qL2 fun u hu v hv=>h.eq u (by simpa using hu) v (by simpa using hv),fun x hx y hy=>c x hx y (by simpa using hy)⟩
theorem Dsc.one (h:Dsc lt R D1 T (e::U)) (q:∀ d∈D1++T,lt d e=false) (hO:Swo lt):Dsc lt R (D1++T) [e] U:=by
 refine ⟨by simpa using h.pm,qC4.mpr ⟨h.ds,qE7 ..,fun x hx y hy=>?_⟩,by simp,fun u hu v hv=>?_⟩
 ·rw [qA9.mp hy]; exact q x hx
 ·rw [qA9.mp hu,qA9.mp hv]; exact hO.rf _
theorem Dsc.oneR (h:Dsc lt R D1 T (e::U)) (q:∀ d∈D1++T,lt d e=false) (hO:Swo lt):Dsc lt R (D1++T.reverse) [e] U:=by
 refine ⟨?_,qC4.mpr ⟨h.rev,qE7 ..,fun x hx y hy=>?_⟩,by simp,fun u hu v hv=>?_⟩
 ·rw [qB8]
  exact ((List.Perm.refl D1).append (T.reverse_perm.append (List.Perm.refl _))).trans h.pm
 ·rw [qA9.mp hy]
  refine q x ?_
  rcases qB3.mp hx with hx | hx
  ·exact qD5 _ hx
  ·exact qC6 _ (by simpa using hx)
 ·rw [qA9.mp hu,qA9.mp hv]; exact hO.rf _
theorem Dsc.more (h:Dsc lt R D1 T (e::U)) (q:∀ d∈D1++T,lt d e=false) (hO:Swo lt) (ht:(D1++T)[(D1++T).length - 1]?=some t) (k:lt e t=false):Dsc lt R D1 (T++[e]) U:=by
 have hT:t∈T:=by
  rw [qA0 (by have:=h.t0; simp; omega)] at ht
  exact qB5 ht
 refine ⟨by simpa using h.pm,?_,by simp,?_⟩
 ·rw [← qB8]
  exact qC4.mpr ⟨h.ds,qE7 ..,fun x hx y hy=>by rw [qA9.mp hy]; exact q x hx⟩
 ·intro u hu v hv
  rcases qB3.mp hu with hu | hu <;> rcases qB3.mp hv with hv | hv
  ·exact h.eq u hu v hv
  ·rw [qA9.mp hv]; exact q u (qC6 _ hu)
  ·rw [qA9.mp hu]; exact hO.tr v t e (h.eq t hT v hv) k
  ·rw [qA9.mp hu,qA9.mp hv]; exact hO.rf _
end
section
variable {prog:Program}{w:World}{A:Around}{E:Value→Shared→Prop}{s:Shared}{κ:SortKind}{lt:Keyed→Keyed→Bool}{G:Keyed→Prop}{p:List Pend}{g:Nat}
def zVc (κ:SortKind) (lt:Keyed→Keyed→Bool) (pre R:List Keyed) (p:List Pend) (g:Nat) (Q:Option Nat→SortSt→Prop):Prop :=
 ∀ N W,(N++W).Perm R→0<N.length→Srt lt N→Q (some N.length) (SS κ (pre++(N++W)) p g)
theorem zNl {pre R R':List Keyed} (gl:∀ x∈pre++R,G x) (h:R'.Perm R):∀ x∈pre++R',G x:=fun x hx=>gl x (((List.Perm.refl pre).append h).mem_iff.mp hx)
noncomputable def ascL (lo a n:Nat):StateT SortSt Sem (Option (Option Nat) × Nat):=forIn [a:n] (none,a) fun _ (c:Option (Option Nat) × Nat)=>ltAt' (lo+c.2) (lo+c.2 - 1) >>= fun r=>match r with
 | some smaller=>if smaller=true then pure (ForInStep.done (none,c.2)) else pure (ForInStep.yield (none,c.2+1))
 | _=>pure (ForInStep.done (some none,c.2))
noncomputable def dscL (lo m n:Nat):StateT SortSt Sem (Option (Option Nat) × Nat × Nat):=forIn [m:n] (none,m,0) fun _ (c:Option (Option Nat) × Nat × Nat)=>ltAt' (lo+c.2.1) (lo+c.2.1 - 1) >>= fun r=>match r with
 | some smaller=>if smaller=true then ite (c.2.2>0) (reverseSlice' (lo+c.2.1 - (c.2.2+1)) (lo+c.2.1) >>= fun _=>pure (ForInStep.yield (none,c.2.1+1,0))) (pure (ForInStep.yield (none,c.2.1+1,0)))
  else ltAt' (lo+c.2.1 - 1) (lo+c.2.1) >>= fun r=>match r with
   | some larger=>if larger=true then pure (ForInStep.done (none,c.2.1,c.2.2)) else pure (ForInStep.yield (none,c.2.1+1,c.2.2+1))
   | _=>pure (ForInStep.done (some none,c.2.1,c.2.2))
 | _=>pure (ForInStep.done (some none,c.2.1,c.2.2))
theorem zIb {pre R D1 T U:List Keyed}{lo n:Nat}{Q:Option (Option Nat) × Nat × Nat→SortSt→Prop} (hO:Swo lt) (hA:Asks prog w A s κ lt G) (gl:∀ x∈pre++R,G x) (hlo:lo=pre.length) (hn:n=R.length) (hD:Dsc lt R D1 T U) (hT:T.length=1)
  {m:Nat} (hm:m=(D1++T).length) (h:∀ D1 T U q,Dsc lt R D1 T U→T.length=q+1→Q (none,(D1++T).length,q) (SS κ (pre++(D1++(T++U))) p g)):wpS (model prog w) A E s (dscL lo m n) Q (SS κ (pre++(D1++(T++U))) p g):=by
 subst hlo hn hm
 have lenR:=hD.pm.length_eq
 refine wpS_mono (wpS_forRange (I:=fun x c st'=>∃ D1 T U q,c=(none,x,q)∧st'=SS κ (pre++(D1++(T++U))) p g∧Dsc lt R D1 T U∧(D1++T).length=x∧T.length=q+1)
  (Q:=fun c st'=>∃ D1 T U q,c=(none,(D1++T).length,q)∧st'=SS κ (pre++(D1++(T++U))) p g∧Dsc lt R D1 T U∧T.length=q+1) ?_ ?_ ⟨D1,T,U,0,rfl,rfl,hD,rfl,hT⟩) ?_
 ·rintro x c st' _ hx ⟨D1,T,U,q,rfl,rfl,hD,rfl,hT⟩
  dsimp only
  have lR:=hD.pm.length_eq
  cases U with
  | nil=>simp at lR hx; omega
  | cons e U =>
   have hz:(D1++T).length - 1<(D1++T).length:=by simp; omega
   obtain ⟨t,et⟩:∃ t,(D1++T)[(D1++T).length - 1]?=some t:=⟨_,qA6 hz⟩
   have g1:(pre++(D1++(T++e::U)))[pre.length+(D1++T).length]?=some e:=by
    rw [← qB8 D1,qA0 (by omega),qA0 (by omega),show pre.length+(D1++T).length - pre.length - (D1++T).length=0 by omega]; rfl
   have g2:(pre++(D1++(T++e::U)))[pre.length+(D1++T).length - 1]?=some t:=by
    rw [← qB8 D1,qA0 (by omega),qA7 (by omega),← et]; congr 1; omega
   have gl':=zNl gl hD.pm
   refine wpS_bind (zM6 hA gl' g1 g2 ?_)
   cases e1:lt e t with
   | true =>
    have q1:=hD.last hO et (hO.as _ _ e1)
    simp only [if_true]
    by_cases hq:q>0
    ·rw [if_pos hq]
     have ea:pre++(D1++(T++e::U))=(pre++D1)++(T++e::U):=by simp
     rw [ea]
     refine wpS_bind (zHs (by simp; omega) (by simp; omega) (wpS_pure ⟨D1++T.reverse,[e],U,0,rfl,by simp,hD.oneR q1 hO,by simp; omega,rfl⟩))
    ·rw [if_neg hq]
     exact wpS_pure ⟨D1++T,[e],U,0,rfl,by simp,hD.one q1 hO,by simp; omega,rfl⟩
   | false =>
    simp only [qD9,if_false]
    refine wpS_bind (zM6 hA gl' g2 g1 ?_)
    cases e2:lt t e with
    | true=>exact wpS_pure ⟨D1,T,e::U,q,rfl,rfl,hD,hT⟩
    | false=>exact wpS_pure ⟨D1,T++[e],U,q+1,rfl,by simp,hD.more (hD.last hO et e2) hO et e1,by simp; omega,by simp [hT]⟩
 ·rintro c st' ⟨D1,T,U,q,rfl,rfl,hD,hx,hT⟩
  exact ⟨D1,T,U,q,by rw [hx],rfl,hD,hT⟩
 rintro c st' ⟨D1,T,U,q,rfl,rfl,hD,hT⟩
 exact h D1 T U q hD hT
theorem zEM {pre R D U:List Keyed}{lo n a:Nat}{Q:Option Nat→SortSt→Prop}{K:Option (Option Nat) × Nat→StateT SortSt Sem (Option Nat)} (hK:∀ m st,Q (some m) st→wpS (model prog w) A E s (K (none,m)) Q st) (hO:Swo lt) (hA:Asks prog w A s κ lt G) (gl:∀ x∈pre++R,G x) (hlo:lo=pre.length) (hn:n=R.length) (h:zVc κ lt pre R p g Q)
  (sD:Srt (fun x y=>lt y x) D) (lD:a=D.length) (h0:0<D.length) (pD:(D++U).Perm R):wpS (model prog w) A E s (reverseSlice' lo (lo+a) >>= fun _=>ascL lo a n >>= K) Q (SS κ (pre++(D++U)) p g):=by
 subst lD hlo hn
 refine wpS_bind (zHs rfl rfl ?_)
 have pD':(D.reverse++U).Perm R:=(D.reverse_perm.append (List.Perm.refl U)).trans pD
 have hl:D.length=D.reverse.length:=by simp
 rw [hl]
 refine wpS_bind (zKJ hO hA (zNl gl pD') rfl (by rw [← pD'.length_eq]; simp) (by simp [h0]) sD.rev fun V W e sV _=>?_)
 subst e
 have:=h (D.reverse++V) W (by simpa using pD') (by simp; omega) sV
 simp only [qB8,qB2] at this
 exact hK _ _ this
theorem zPF {pre R:List Keyed}{lo n:Nat}{Q:Option Nat→SortSt→Prop} (hO:Swo lt) (hA:Asks prog w A s κ lt G) (gl:∀ x∈pre++R,G x) (hlo:lo=pre.length) (hn:n=R.length) (hR:0<R.length) (h:zVc κ lt pre R p g Q) :
  wpS (model prog w) A E s (countRun' lo n) Q (SS κ (pre++R) p g):=by
 obtain ⟨r,R',rfl⟩:∃ r R',R=r::R':=by cases R with
  | nil=>simp at hR
  | cons r R=>exact ⟨r,R,rfl⟩
 have e0:pre++r::R'=pre++([r]++R'):=rfl
 rw [e0] at gl ⊢
 refine wpS_bind (zKJ (D:=[r]) hO hA gl hlo (by rw [hn]; simp; omega) (by simp) (qE7 ..) fun V W e sV ho=>?_)
 subst e
 dsimp only
 by_cases e1:([r].length+V.length == n)=true
 ·rw [if_pos e1]
  have:=h ([r]++V) W (by simp) (by simp) sV
  simp only [qB8,qB2] at this
  exact wpS_pure this
 rw [if_neg e1]
 rcases ho with rfl | ⟨e,W',rfl,z,ez,hz⟩
 ·exfalso; apply e1; rw [hn]; simp; omega
 have gl':∀ x∈pre++(([r]++V)++e::W'),G x:=by simpa using gl
 rw [show pre++([r]++(V++e::W'))=pre++(([r]++V)++e::W') by simp]
 have hs:∀ R0,(R0++e::W').Perm (r::(V++e::W'))→(∀ u∈R0,∀ v∈R0,lt u v=false)→(∀ d∈R0,lt d e=false)→Dsc lt (r::(V++e::W')) R0 [e] W':=fun R0 a b c =>
  ⟨by simpa using a,qC4.mpr ⟨qL2 b,qE7 ..,fun x hx y hy=>by rw [qA9.mp hy]; exact c x hx⟩,by simp,fun u hu v hv=>by rw [qA9.mp hu,qA9.mp hv]; exact hO.rf _⟩
 by_cases e2:[r].length+V.length>1
 ·rw [if_pos e2]
  refine wpS_bind (zM6 hA gl' (x:=r) (y:=z) (by rw [hlo,qA0 (by omega)]; simp) (by
   rw [hlo,qA0 (by omega),qA7 (by simp at e2 ⊢; omega),← ez]; congr 1; simp; omega) ?_)
  cases e3:lt r z with
  | true =>
   have:=h ([r]++V) (e::W') (by simp) (by simp) sV
   simp only [qB8,qB2] at this ⊢
   exact wpS_pure this
  | false =>
   simp only [qD9,if_false]
   have z1:∀ u∈[r]++V,lt z u=false:=fun u hu=>by
    have:=zGT hO sV (by simp) u hu
    rwa [(qA1.mp ez).2] at this
   have z2:∀ u∈[r]++V,lt u r=false:=fun u hu=>zNk hO sV (by simp) u hu
   have al:∀ u∈[r]++V,∀ v∈[r]++V,lt u v=false:=fun u hu v hv=>hO.tr v r u (hO.tr v z r (z1 v hv) e3) (z2 u hu)
   have zm:z∈[r]++V:=qB5 ez
   refine wpS_bind (zHs hlo (by rw [hlo]; simp; omega) ?_)
   have D0:=hs ([r]++V).reverse (by
    have:=((([r]++V).reverse_perm).append (List.Perm.refl (e::W')))
    simpa using this) (fun u hu v hv=>al u (qI8.mp hu) v (qI8.mp hv)) (fun d hd=>hO.tr e z d (hO.as _ _ hz) (al d (qI8.mp hd) z zm))
   refine wpS_bind (wpS_lift (wpAny_rule ⟨rfl,?_⟩))
   refine wpS_bind (zIb hO hA (by simpa using gl) hlo hn D0 rfl (by simp; omega) fun D1 T U q hD hT=>?_)
   dsimp only
   by_cases hq:q>0
   ·rw [if_pos hq,show pre++(D1++(T++U))=(pre++D1)++(T++U) by simp]
    refine wpS_bind (zHs (by rw [hlo]; simp; omega) (by rw [hlo]; simp; omega) ?_)
    rw [show (pre++D1)++(T.reverse++U)=pre++((D1++T.reverse)++U) by simp]
    exact zEM (K:=_) (fun m st hm=>wpS_pure hm) hO hA (by simpa using gl) hlo hn h hD.rev (by simp) (by have:=hD.t0; simp; omega) (by rw [qB8]; exact ((List.Perm.refl D1).append (T.reverse_perm.append (List.Perm.refl _))).trans hD.pm)
   ·rw [if_neg hq,show pre++(D1++(T++U))=pre++((D1++T)++U) by simp]
    exact zEM (K:=_) (fun m st hm=>wpS_pure hm) hO hA (by simpa using gl) hlo hn h hD.ds rfl (by have:=hD.t0; simp; omega) (by simpa using hD.pm)
 ·rw [if_neg e2]
  have hV:V=[]:=by cases V with
   | nil=>rfl
   | cons v V=>simp at e2
  subst hV
  have D0:=hs [r] (by simp) (fun u hu v hv=>by rw [qA9.mp hu,qA9.mp hv]; exact hO.rf _) (fun d hd=>by
   rw [qA9.mp hd]
   have:z=r:=by simpa using ez.symm
   rw [← this]; exact hO.as _ _ hz)
  refine wpS_bind (wpS_lift (wpAny_rule ⟨rfl,?_⟩))
  refine wpS_bind (zIb hO hA (by simpa using gl) hlo hn D0 rfl (by simp) fun D1 T U q hD hT=>?_)
  dsimp only
  by_cases hq:q>0
  ·rw [if_pos hq,show pre++(D1++(T++U))=(pre++D1)++(T++U) by simp]
   refine wpS_bind (zHs (by rw [hlo]; simp; omega) (by rw [hlo]; simp; omega) ?_)
   rw [show (pre++D1)++(T.reverse++U)=pre++((D1++T.reverse)++U) by simp]
   exact zEM (K:=_) (fun m st hm=>wpS_pure hm) hO hA (by simpa using gl) hlo hn h hD.rev (by simp) (by have:=hD.t0; simp; omega) (by rw [qB8]; exact ((List.Perm.refl D1).append (T.reverse_perm.append (List.Perm.refl _))).trans hD.pm)
  ·rw [if_neg hq,show pre++(D1++(T++U))=pre++((D1++T)++U) by simp]
   exact zEM (K:=_) (fun m st hm=>wpS_pure hm) hO hA (by simpa using gl) hlo hn h hD.ds rfl (by have:=hD.t0; simp; omega) (by simpa using hD.pm)
end
open PySem PySem.Spec PyProof.Rows
section
variable {prog:Program}{w:World}{A:Around}{E:Value→Shared→Prop}{s:Shared}{κ:SortKind}{lt:Keyed→Keyed→Bool}{G:Keyed→Prop}{p:List Pend}{g:Nat}
theorem zRZ {S:List Keyed}{e:Keyed}{l:Nat} (hO:Swo lt) (sS:Srt lt S) (h1:∀ x∈S.take l,lt e x=false) (h2:∀ x∈S.drop l,lt e x=true):Srt lt (S.take l++(e::S.drop l)):=by
 have sX:Srt lt (S.take l++S.drop l):=by rw [qD2]; exact sS
 obtain ⟨x1,x2,x3⟩:=qC4.mp sX
 refine qC4.mpr ⟨x1,qG0.mpr ⟨fun y hy=>hO.as _ _ (h2 y hy),x2⟩,fun x hx y hy=>?_⟩
 rcases qB9.mp hy with rfl | hy
 ·exact h1 x hx
 ·exact x3 x hx y hy
theorem zPN {pre S U post:List Keyed}{lo n ok:Nat}{Q:Bool→SortSt→Prop} (hO:Swo lt) (hA:Asks prog w A s κ lt G) (gl:∀ x∈pre++(S++(U++post)),G x) (hlo:lo=pre.length) (hn:n=S.length+U.length) (hok:ok=S.length) (h0:0<S.length) (sS:Srt lt S)
  (h:∀ N,N.Perm (S++U)→Srt lt N→Q true (SS κ (pre++(N++post)) p g)):wpS (model prog w) A E s (binarySort' lo n ok) Q (SS κ (pre++(S++(U++post))) p g):=by
 subst hlo hn hok
 rw [binarySort'_eq]
 rw [show max S.length 1=S.length by omega]
 refine wpS_bind (wpS_mono (wpS_forRange (I:=fun k c st'=>c=(none,())∧∃ S' U',k=S'.length∧(S'++U').Perm (S++U)∧Srt lt S'∧st'=SS κ (pre++(S'++(U'++post))) p g)
  (Q:=fun c st'=>c=(none,())∧∃ N,N.Perm (S++U)∧Srt lt N∧st'=SS κ (pre++(N++post)) p g) ?_ ?_ ⟨rfl,S,U,rfl,.refl _,sS,rfl⟩) ?_)
 ·rintro k c st' hk1 hk2 ⟨rfl,S',U',rfl,pm,sS',rfl⟩
  dsimp only
  have lp:=pm.length_eq
  cases U' with
  | nil=>simp at lp; omega
  | cons e U' =>
  have gl':∀ x∈pre++(S'++(e::U'++post)),G x:=fun x hx=>gl x (by
   rcases qB3.mp hx with hx | hx
   ·exact qD5 _ hx
   ·refine qC6 _ ?_
    rw [← qB8] at hx ⊢
    rcases qB3.mp hx with hx | hx
    ·exact qD5 _ (pm.mem_iff.mp hx)
    ·exact qC6 _ hx)
  refine wpS_bind (wpS_mono (wpS_forRange (I:=fun x c st''=>st''=SS κ (pre++(S'++(e::U'++post))) p g∧∃ l r,c=(none,l,r)∧l≤r∧r≤S'.length∧r - l≤S'.length - x ∧
    (∀ i,(hi:i<S'.length)→i<l→lt e S'[i]=false)∧(∀ i,(hi:i<S'.length)→r≤i→lt e S'[i]=true))
   (Q:=fun c st''=>st''=SS κ (pre++(S'++(e::U'++post))) p g∧∃ l r,c=(none,l,r)∧l≤S'.length ∧
    (∀ i,(hi:i<S'.length)→i<l→lt e S'[i]=false)∧(∀ i,(hi:i<S'.length)→l≤i→lt e S'[i]=true)) ?_ ?_ ⟨rfl,0,S'.length,rfl,by omega,by omega,by omega,fun i hi h=>(by omega),fun i hi h=>(by omega)⟩) ?_)
  ·rintro x c st'' _ hx ⟨rfl,l,r,rfl,hlr,hrk,hm,q1,q2⟩
   dsimp only
   by_cases hge:l≥r
   ·rw [if_pos hge]
    have:l=r:=by omega
    subst this
    exact wpS_pure ⟨rfl,l,l,rfl,hrk,q1,q2⟩
   ·rw [if_neg hge]
    refine wpS_bind (zM6 hA gl' (x:=e) (y:=S'[(l+r) / 2]'(by omega)) ?_ ?_ ?_)
    ·rw [qA0 (by omega),qA0 (by omega),show pre.length+S'.length - pre.length - S'.length=0 by omega]; rfl
    ·rw [qA0 (by omega),qA7 (by omega),qK6]
     exact qA6 (by omega)
    ·cases e1:lt e (S'[(l+r) / 2]'(by omega)) with
     | true =>
      refine wpS_pure ⟨rfl,l,(l+r) / 2,rfl,by omega,by omega,by omega,q1,fun i hi h1=>?_⟩
      cases e2:lt e S'[i] with
      | true=>rfl
      | false =>
       have:=zE7 hO (x:=S'[(l+r) / 2]'(by omega)) sS' (i:=(l+r) / 2) (by omega) (hO.rf _) S'[i] (by
        rw [qH0]; exact ⟨i - (l+r) / 2,by simp; omega,by simp only [qL1]; congr 1; omega⟩)
       rw [hO.tr _ _ _ this e2] at e1; cases e1
     | false =>
      refine wpS_pure ⟨rfl,(l+r) / 2+1,r,rfl,by omega,by omega,by omega,fun i hi h1=>?_,q2⟩
      have:=zE7 hO (x:=S'[i]) sS' (i:=i) hi (hO.rf _) (S'[(l+r) / 2]'(by omega)) (by
        rw [qH0]; exact ⟨(l+r) / 2 - i,by simp; omega,by simp only [qL1]; congr 1; omega⟩)
      exact hO.tr _ _ _ this e1
  ·rintro c st'' ⟨rfl,l,r,rfl,hlr,hrk,hm,q1,q2⟩
   have:l=r:=by omega
   subst this
   exact ⟨rfl,l,l,rfl,hrk,q1,q2⟩
  ·rintro c st'' ⟨rfl,l,r,rfl,hl,q1,q2⟩
   dsimp only
   have e0:pre++(S'++(e::U'++post))=(pre++S'.take l)++(S'.drop l++(e::(U'++post))):=by
    conv=>lhs; rw [← qD2 l S']
    simp only [qB8,qG6]
   rw [e0]
   refine wpS_bind (zQu (by simp; omega) (by simp; omega) (wpS_pure ⟨rfl,S'.take l++(e::S'.drop l),U',by simp; omega,?_,zRZ hO sS' (fun x hx=>?_) (fun x hx=>?_),by simp⟩))
   ·refine List.Perm.trans ?_ pm
    have:(S'++e::U')=S'.take l++(S'.drop l++(e::U')):=by
     rw [← qB8,qD2]
    rw [this,qB8]
    refine (List.Perm.refl _).append ?_
    rw [qG6]
    exact List.perm_middle.symm
   ·obtain ⟨i,hi,hil,rfl⟩:=zDw hx
    exact q1 i hi hil
   ·obtain ⟨i,hi,hil,rfl⟩:=zDy hx
    exact q2 i hi hil
 ·rintro c st' ⟨rfl,S',U',hk,pm,sS',rfl⟩
  have lp:=pm.length_eq
  have:U'=[]:=by
   cases U' with
   | nil=>rfl
   | cons e U'=>simp at lp; omega
  subst this
  exact ⟨rfl,S',by simpa using pm,sS',by simp⟩
 ·rintro c st' ⟨rfl,N,pm,sN,rfl⟩
  exact wpS_pure (h N pm sN)
end
open PySem PySem.Spec PyProof.Rows
noncomputable abbrev Rn:=List (List Keyed × Nat)
noncomputable def zA7:Rn→List Keyed
 | []=>[]
 | r::rs=>r.1++zA7 rs
noncomputable def pnd:Nat→Rn→List Pend
 | _,[]=>[]
 | o,r::rs=>(o,r.1.length,r.2)::pnd (o+r.1.length) rs
theorem zB9:∀ (a b:Rn),zA7 (a++b)=zA7 a++zA7 b
 | [],_=>rfl
 | r::a,b=>by rw [qG6,zA7,zB9 a b,zA7,qB8]
theorem zCW:∀ (o:Nat) (a b:Rn),pnd o (a++b)=pnd o a++pnd (o+(zA7 a).length) b
 | o,[],b=>by simp [pnd,zA7]
 | o,r::a,b=>by
  rw [qG6,pnd,zCW (o+r.1.length) a b,pnd,zA7,qB2,qG6,Nat.add_assoc]
theorem zEc:∀ (o:Nat) (a:Rn),(pnd o a).length=a.length
 | _,[]=>rfl
 | o,r::a=>by rw [pnd,qD0,zEc,qD0]
structure Good (lt:Keyed→Keyed→Bool) (rs:Rn):Prop where
 s:∀ r∈rs,Srt lt r.1
 p:∀ r∈rs,0<r.1.length
theorem Good.len {lt:Keyed→Keyed→Bool}:∀ {rs:Rn},Good lt rs→rs.length≤(zA7 rs).length
 | [],_=>qB0 _
 | r::rs,h=>by
  have:=Good.len (rs:=rs) ⟨fun x hx=>h.s x (qC0 _ hx),fun x hx=>h.p x (qC0 _ hx)⟩
  have:=h.p r (qD4 ..)
  rw [zA7,qB2,qD0]; omega
theorem zSB {rs:Rn}{i:Nat} (h:i+1<rs.length):∃ r1 x y r2,rs=r1++x::y::r2∧r1.length=i:=by
 refine ⟨rs.take i,rs[i],rs[i+1],rs.drop (i+2),?_,by simp; omega⟩
 rw [← qF3,← qF3,qD2]
theorem zN0 {rs:Rn} (h:rs≠[]):∃ r1 x,rs=r1++[x]:=⟨rs.dropLast,rs.getLast h,(qJ3 h).symm⟩
theorem zKk:∀ (l:List Pend) (u:Pend) (f:Pend→Pend),(l++[u]).modify l.length f=l++[f u]
 | [],u,f=>by simp
 | v::l,u,f=>by rw [qG6,qD0,List.modify_succ_cons,zKk l u f,qG6]
theorem zX3 {c:Prop} [Decidable c] {n:Nat} (h:1<n):(if c then n - 2 - 1 else n - 2)+1<n:=by split <;> omega
section
variable {prog:Program}{w:World}{A:Around}{E:Value→Shared→Prop}{s:Shared}{κ:SortKind}{lt:Keyed→Keyed→Bool}{G:Keyed→Prop}
noncomputable abbrev RnS (κ:SortKind) (rs:Rn) (rest:List Keyed) (g:Nat):SortSt:=SS κ (zA7 rs++rest) (pnd 0 rs) g
theorem zKj {rs:Rn}{rest:List Keyed}{g i:Nat}{Q:Bool→SortSt→Prop} (hO:Swo lt) (hA:Asks prog w A s κ lt G) (gl:∀ x∈zA7 rs++rest,G x) (hg:Good lt rs) (hi:i+1<rs.length)
  (h:∀ rs' g',Good lt rs'→(zA7 rs').Perm (zA7 rs)→rs'.length+1=rs.length→Q true (RnS κ rs' rest g')):wpS (model prog w) A E s (mergeAt' i) Q (RnS κ rs rest g):=by
 obtain ⟨r1,⟨X,pw⟩,⟨Y,q⟩,r2,rfl,rfl⟩:=zSB hi
 have mx:(X,pw)∈r1++(X,pw)::(Y,q)::r2:=by simp
 have my:(Y,q)∈r1++(X,pw)::(Y,q)::r2:=by simp
 have el:zA7 (r1++(X,pw)::(Y,q)::r2)++rest=zA7 r1++(X++(Y++(zA7 r2++rest))):=by rw [zB9,zA7,zA7]; simp
 have ep:pnd 0 (r1++(X,pw)::(Y,q)::r2)=pnd 0 r1++((zA7 r1).length,X.length,pw)::((zA7 r1).length+X.length,Y.length,q)::pnd ((zA7 r1).length+X.length+Y.length) r2:=by
  rw [zCW,pnd,pnd]; simp
 have hst:RnS κ (r1++(X,pw)::(Y,q)::r2) rest g=SS κ (zA7 r1++(X++(Y++(zA7 r2++rest)))) (pnd 0 r1++((zA7 r1).length,X.length,pw)::((zA7 r1).length+X.length,Y.length,q)::pnd ((zA7 r1).length+X.length+Y.length) r2) g:=by
  unfold RnS; rw [el,ep]
 rw [hst]
 rw [el] at gl
 refine zP9 hO hA gl (hg.s _ mx) (hg.s _ my) (hg.p _ mx) (hg.p _ my) rfl (zEc ..).symm fun Z g' hZ=>?_
 have lz:=hZ.pm.length_eq
 rw [qB2] at lz
 have hr:=h (r1++(Z,pw)::r2) g' ⟨fun r hr=>?_,fun r hr=>?_⟩ ?_ (by simp; omega)
 ·have el':zA7 (r1++(Z,pw)::r2)++rest=zA7 r1++(Z++(zA7 r2++rest)):=by rw [zB9,zA7]; simp
  have ep':pnd 0 (r1++(Z,pw)::r2)=pnd 0 r1++((zA7 r1).length,X.length+Y.length,pw)::pnd ((zA7 r1).length+X.length+Y.length) r2:=by
   rw [zCW,pnd]; simp only [qM8]; rw [lz,Nat.add_assoc]
  unfold RnS at hr
  rw [el',ep'] at hr
  exact hr
 ·rcases qB3.mp hr with hr | hr
  ·exact hg.s r (by simp [hr])
  ·rcases qB9.mp hr with rfl | hr
   ·exact hZ.so
   ·exact hg.s r (by simp [hr])
 ·rcases qB3.mp hr with hr | hr
  ·exact hg.p r (by simp [hr])
  ·rcases qB9.mp hr with rfl | hr
   ·have:=hg.p _ mx; show 0<Z.length; simp at this; omega
   ·exact hg.p r (by simp [hr])
 ·rw [zB9,zB9,zA7,zA7,zA7]
  refine (List.Perm.refl _).append ?_
  rw [← qB8]
  exact hZ.pm.append (List.Perm.refl _)
theorem zOS {rs:Rn}{i:Nat} (h:i<rs.length):∃ o,(pnd 0 rs).toArray[i]?=some (o,rs[i].1.length,rs[i].2):=by
 have e:rs=rs.take i++rs[i]::rs.drop (i+1):=by rw [← qF3,qD2]
 refine ⟨(zA7 (rs.take i)).length,?_⟩
 rw [qD3]
 conv=>lhs; rw [e]
 rw [zCW,qA0 (by rw [zEc,qH5]; exact Nat.min_le_left ..),zEc,pnd]
 simp [qT1 (qG7 h)]
theorem zQF {l:List Keyed}{Q:Unit→SortSt→Prop} (hO:Swo lt) (hA:Asks prog w A s κ lt G) (gl:∀ x∈l,G x) (h0:0<l.length)
  (h:∀ l' st',arrOf st'=l'.toArray→failedOf st'=none→l'.Perm l→Srt lt l'→Q () st'):wpS (model prog w) A E s sortRuns' Q (SS κ l [] 7):=by
 rw [sortRuns'_eq]
 refine wpS_bind (wpS_get ?_)
 dsimp only
 rw [show l.toArray.size=l.length from rfl]
 generalize minRun' l.length l.length 0=mr
 have hG:∀ {l':List Keyed},l'.Perm l→∀ x∈l',G x:=fun hp x hx=>gl x (hp.mem_iff.mp hx)
 refine wpS_bind (wpS_mono (wpS_forRange
  (I:=fun x c st'=>∃ rs post g,c=(none,(zA7 rs).length)∧st'=RnS κ rs post g∧(zA7 rs++post).Perm l∧Good lt rs∧(x≤(zA7 rs).length))
  (Q:=fun c st'=>∃ rs g,c=(none,l.length)∧st'=RnS κ rs [] g∧(zA7 rs).Perm l∧Good lt rs) ?_ ?_ ⟨[],l,7,rfl,rfl,.refl _,⟨fun r hr=>(by cases hr),fun r hr=>(by cases hr)⟩,qE1 _⟩) ?_)
 ·rintro x c st' _ hx ⟨rs,post,g,rfl,rfl,pm,hg,hp⟩
  dsimp only
  have lp:=pm.length_eq
  rw [qB2] at lp
  by_cases hge:(zA7 rs).length≥l.length
  ·rw [if_pos hge]
   have e:post=[]:=qE6.mp (by omega)
   subst e
   refine wpS_pure ⟨rs,g,by rw [show (zA7 rs).length=l.length by omega],rfl,by simpa using pm,hg⟩
  rw [if_neg hge]
  refine wpS_bind (zPF hO hA (hG pm) rfl (by omega) (by omega) fun N W pN hN sN=>?_)
  dsimp only
  have lN:=pN.length_eq
  rw [qB2] at lN
  have done:∀ {N W:List Keyed}{rs':Rn}{g':Nat},(N++W).Perm post→0<N.length→Srt lt N→Good lt rs'→(zA7 rs').Perm (zA7 rs)→∃ rs2 post2 g2,((none,(zA7 rs).length+N.length):Option Unit × Nat)=(none,(zA7 rs2).length)∧SS κ (zA7 rs'++(N++W)) (pnd 0 rs'++[((zA7 rs).length,N.length,0)]) g'=RnS κ rs2 post2 g2∧(zA7 rs2++post2).Perm l∧Good lt rs2∧x+1≤(zA7 rs2).length:=by
   intro N W rs' g' pN hN sN hg' hp'
   have ef:zA7 (rs'++[(N,0)])=zA7 rs'++N:=by rw [zB9,zA7,zA7,qH9]
   refine ⟨rs'++[(N,0)],W,g',?_,?_,?_,⟨fun r hr=>?_,fun r hr=>?_⟩,?_⟩
   ·rw [ef,qB2,hp'.length_eq]
   ·unfold RnS; rw [ef,zCW,pnd,pnd,qB8,qM8,hp'.length_eq]
   ·rw [ef,qB8]
    exact (hp'.append pN).trans pm
   ·rcases qB3.mp hr with hr | hr
    ·exact hg'.s r hr
    ·rw [qA9.mp hr]; exact sN
   ·rcases qB3.mp hr with hr | hr
    ·exact hg'.p r hr
    ·rw [qA9.mp hr]; exact hN
   ·rw [ef,qB2,hp'.length_eq]; omega
  by_cases hlt:N.length<mr
  case' pos =>
   rw [if_pos hlt]
   refine wpS_bind (wpS_lift (wpAny_rule ⟨rfl,?_⟩))
   have eW:zA7 rs++(N++W)=zA7 rs++(N++(W.take (min (l.length - (zA7 rs).length) mr - N.length)++W.drop (min (l.length - (zA7 rs).length) mr - N.length))):=by rw [qD2]
   have gW:∀ x∈zA7 rs++(N++W),G x:=hG (((List.Perm.refl _).append pN).trans pm)
   rw [eW] at gW ⊢
   refine wpS_bind (zPN hO hA gW rfl (by simp; omega) rfl hN sN fun N' pN' sN'=>?_)
   simp only [Bool.not_true,qD9,if_false]
   have lN':min (l.length - (zA7 rs).length) mr=N'.length:=by rw [pN'.length_eq]; simp; omega
   rw [lN']
   have pN2:(N'++W.drop (min (l.length - (zA7 rs).length) mr - N.length)).Perm post:=by
    refine List.Perm.trans (pN'.append (List.Perm.refl _)) ?_
    rw [qB8,qD2]; exact pN
   have hN2:0<N'.length:=by rw [pN'.length_eq]; simp; omega
   rw [lN'] at pN2
   generalize W.drop (N'.length - N.length)=W' at pN2 ⊢
   clear eW gW pN' lN' pN hN sN lN
   generalize N'=M at sN' pN2 hN2 ⊢
   have sM:=sN'
   have pM:=pN2
   have hM:=hN2
   generalize W'=V at pM ⊢
  case' neg =>
   rw [if_neg hlt]
   have sM:=sN
   have pM:=pN
   have hM:=hN
   clear sN pN hN lN hlt
   generalize N=M at sM pM hM ⊢
   generalize W=V at pM ⊢
  all_goals
   refine wpS_bind (wpS_get ?_)
   (try dsimp only)
   by_cases hrs:rs=[]
   ·subst hrs
    exact wpS_bind (wpS_modify (wpS_pure (done (rs':=[]) pM hM sM hg (.refl _))))
   ·obtain ⟨r1,y,e⟩:=zN0 hrs
    have eb:(pnd 0 rs).toArray.back?=some ((zA7 r1).length,y.1.length,y.2):=by
     rw [e,zCW,pnd,pnd]; simp
    rw [eb]
    dsimp only
    refine wpS_bind (wpS_mono (wpS_forRange (I:=fun _ c st'=>c=(none,())∧∃ rs' g',st'=RnS κ rs' (M++V) g'∧Good lt rs'∧(zA7 rs').Perm (zA7 rs)∧rs'≠[])
     (Q:=fun c st'=>c=(none,())∧∃ rs' g',st'=RnS κ rs' (M++V) g'∧Good lt rs'∧(zA7 rs').Perm (zA7 rs)∧rs'≠[]) ?_ (fun c st' h=>h) ⟨rfl,rs,g,rfl,hg,.refl _,hrs⟩) ?_)
    ·rintro i c st' _ _ ⟨rfl,rs',g',rfl,hg',hp',hne⟩
     refine wpS_bind (wpS_get ?_)
     (try dsimp only)
     have es:(pnd 0 rs').toArray.size=rs'.length:=qA8.trans (zEc ..)
     rw [es]
     by_cases h1:rs'.length>1
     ·rw [if_pos h1]
      obtain ⟨o,eo⟩:=zOS (rs:=rs') (i:=rs'.length - 2) (by omega)
      rw [eo]
      dsimp only
      split
      ·exact wpS_pure ⟨rfl,rs',g',rfl,hg',hp',hne⟩
      ·refine wpS_bind (zKj hO hA (hG (((hp'.append (List.Perm.refl _)).trans ((List.Perm.refl _).append pM)).trans pm)) hg' (by omega) fun rs2 g2 hg2 hp2 hl2=>?_)
       exact wpS_pure ⟨rfl,rs2,g2,rfl,hg2,hp2.trans hp',fun e=>by subst e; simp at hl2; omega⟩
     ·rw [if_neg h1]
      exact wpS_pure ⟨rfl,rs',g',rfl,hg',hp',hne⟩
    ·rintro c st' ⟨rfl,rs',g',rfl,hg',hp',hne⟩
     dsimp only
     obtain ⟨r2,⟨Y,q⟩,rfl⟩:=zN0 hne
     refine wpS_bind (wpS_modify (wpS_bind (wpS_modify (wpS_pure ?_))))
     generalize power' l.length _ _ l.length=pw
     have e3:(pnd 0 (r2++[(Y,q)])).toArray.modify ((pnd 0 (r2++[(Y,q)])).toArray.size - 1) (fun x=>(x.1,x.2.1,pw))=(pnd 0 (r2++[(Y,pw)])).toArray:=by
      apply Array.ext'
      rw [zCW,zCW,pnd,pnd,pnd,pnd]
      simp [zKk]
     have e4:setPending (RnS κ (r2++[(Y,q)]) (M++V) g') ((pnd 0 (r2++[(Y,q)])).toArray.modify ((pnd 0 (r2++[(Y,q)])).toArray.size - 1) (fun x=>(x.1,x.2.1,pw)))=RnS κ (r2++[(Y,pw)]) (M++V) g':=by
      rw [e3]
      unfold RnS
      rw [zB9,zB9]
      rfl
     have:=done (rs':=r2++[(Y,pw)]) (g':=g') pM hM sM ⟨fun r hr=>?_,fun r hr=>?_⟩ (by rw [zB9] at hp' ⊢; exact hp')
     ·obtain ⟨a,b,c,d,e,f⟩:=this
      refine ⟨a,b,c,d,?_,f⟩
      rw [← e]
      show setPending (setPending (RnS κ (r2++[(Y,q)]) (M++V) g') ((pnd 0 (r2++[(Y,q)])).toArray.modify ((pnd 0 (r2++[(Y,q)])).toArray.size - 1) (fun x=>(x.1,x.2.1,pw)))) _=_
      rw [e4]
      show SortSt.mk' κ _ ((pnd 0 (r2++[(Y,pw)])).toArray.push _) _ _=SortSt.mk' κ _ _ _ _
      rw [List.push_toArray]
     ·rcases qB3.mp hr with hr | hr
      ·exact hg'.s r (by simp [hr])
      ·rw [qA9.mp hr]; exact hg'.s (Y,q) (by simp)
     ·rcases qB3.mp hr with hr | hr
      ·exact hg'.p r (by simp [hr])
      ·rw [qA9.mp hr]; exact hg'.p (Y,q) (by simp)
 ·rintro c st' ⟨rs,post,g,rfl,rfl,pm,hg,hp⟩
  have lp:=pm.length_eq
  rw [qB2] at lp
  have e:post=[]:=qE6.mp (by omega)
  subst e
  exact ⟨rs,g,by rw [show (zA7 rs).length=l.length by simp at lp; omega],rfl,by simpa using pm,hg⟩
 rintro c st' ⟨rs,g,rfl,rfl,pm,hg⟩
 dsimp only
 have l1:=hg.len
 rw [pm.length_eq] at l1
 refine wpS_bind (wpS_mono (wpS_forRange (I:=fun x c st'=>c=(none,())∧∃ rs' g',st'=RnS κ rs' [] g'∧Good lt rs'∧(zA7 rs').Perm l∧rs'.length+x≤l.length+1)
  (Q:=fun c st'=>c=(none,())∧∃ rs' g',st'=RnS κ rs' [] g'∧Good lt rs'∧(zA7 rs').Perm l∧rs'.length≤1) ?_ ?_ ⟨rfl,rs,g,rfl,hg,pm,by omega⟩) ?_)
 ·rintro x c st' _ hx ⟨rfl,rs',g',rfl,hg',hp',hl'⟩
  refine wpS_bind (wpS_get ?_)
  (try dsimp only)
  have es:(pnd 0 rs').toArray.size=rs'.length:=qA8.trans (zEc ..)
  rw [es]
  by_cases h1:rs'.length≤1
  ·rw [if_pos h1]; exact wpS_pure ⟨rfl,rs',g',rfl,hg',hp',h1⟩
  ·rw [if_neg h1]
   refine wpS_bind (zKj hO hA (hG (by simpa using hp')) hg' (zX3 (by omega)) fun rs2 g2 hg2 hp2 hl2=>?_)
   exact wpS_pure ⟨rfl,rs2,g2,rfl,hg2,hp2.trans hp',by omega⟩
 ·rintro c st' ⟨rfl,rs',g',rfl,hg',hp',hl'⟩
  exact ⟨rfl,rs',g',rfl,hg',hp',by omega⟩
 ·rintro c st' ⟨rfl,rs',g',rfl,hg',hp',hl'⟩
  match rs',hl' with
  | [],_ =>
   have:=hp'.length_eq
   simp [zA7] at this
   omega
  | [(R,q)],_ =>
   have hf:zA7 [(R,q)]=R:=by simp [zA7]
   refine wpS_pure (h R _ ?_ rfl (by rw [hf] at hp'; exact hp') (hg'.s (R,q) (qF0 _)))
   show (zA7 [(R,q)]++[]).toArray=_
   rw [hf,qH9]
end
open PySem PySem.Spec PyProof.Rows
theorem zMX:∀ (x y:List Int),HT.lexLt x y=true→HT.lexLt y x=false
 | [],[],h=>by cases h
 | [],_::_,_=>rfl
 | _::_,[],h=>by cases h
 | a::x,b::y,h=>by
  rw [HT.lexLt_cons] at h ⊢
  by_cases e:a=b
  ·subst e; rw [if_pos rfl] at h ⊢; exact zMX x y h
  ·rw [if_neg e] at h
   rw [if_neg (fun q=>e q.symm)]
   have:=of_decide_eq_true h
   exact decide_eq_false (by omega)
theorem zMW:∀ (x y z:List Int),HT.lexLt y x=false→HT.lexLt z y=false→HT.lexLt z x=false
 | [],y,z,h,k=>by
  cases z with
  | nil=>rfl
  | cons c z=>rfl
 | a::x,[],z,h,k=>by cases h
 | a::x,b::y,[],h,k=>by cases k
 | a::x,b::y,c::z,h,k=>by
  rw [HT.lexLt_cons] at h k ⊢
  by_cases e1:b=a
  ·subst e1
   rw [if_pos rfl] at h
   by_cases e2:c=b
   ·subst e2; rw [if_pos rfl] at k ⊢; exact zMW x y z h k
   ·rw [if_neg e2] at k ⊢; exact k
  ·rw [if_neg e1] at h
   have h':=of_decide_eq_false h
   by_cases e2:c=b
   ·subst e2; rw [if_neg e1]; exact h
   ·rw [if_neg e2] at k
    have k':=of_decide_eq_false k
    rw [if_neg (by omega)]
    exact decide_eq_false (by omega)
theorem zKm:∀ (x y:List Int),HT.lexLt y x=false→HT.lexLt x y=false→x=y
 | [],[],_,_=>rfl
 | [],_::_,_,k=>by cases k
 | _::_,[],h,_=>by cases h
 | a::x,b::y,h,k=>by
  rw [HT.lexLt_cons] at h k
  by_cases e:a=b
  ·subst e
   rw [if_pos rfl] at h k
   rw [zKm x y h k]
  ·rw [if_neg e] at k
   rw [if_neg (fun q=>e q.symm)] at h
   have:=of_decide_eq_false h
   have:=of_decide_eq_false k
   omega
noncomputable def kdv (h:Heap):Value→List Int
 | .ref a=>match h.get? a with
  | some o=>match o.data with
   | .seq xs _=>xs.toList.map numOf
   | _=>[]
  | none=>[]
 | _=>[]
def TupI (h:Heap) (v:Value) (ns:List Int):Prop:=∃ a its,v=.ref a∧IsTup h a its∧IntsAre its.toList ns
theorem TupI.kd {h:Heap}{v:Value}{ns:List Int} (x:TupI h v ns):kdv h v=ns:=by
 obtain ⟨a,its,rfl,⟨o,ho,hc,n,hd⟩,hi⟩:=x
 show (match h.get? a with | some o=>_ | none=>_)=_
 rw [ho]
 show (match o.data with | .seq xs _=>_ | _=>_)=_
 rw [hd]
 exact hi.nums
theorem TupI.mono {h h':Heap}{v:Value}{ns:List Int} (x:TupI h v ns) (k:∀ b o,o.cls=.type "tuple"→h.get? b=some o→h'.get? b=some o):TupI h' v ns:=by
 obtain ⟨a,its,rfl,⟨o,ho,hc,n,hd⟩,hi⟩:=x
 exact ⟨a,its,rfl,⟨o,k a o hc ho,hc,n,hd⟩,hi⟩
noncomputable def ltv (h:Heap) (x y:Keyed):Bool:=HT.lexLt (kdv h x.1) (kdv h y.1)
theorem zRC (h:Heap):Swo (ltv h):=⟨fun x y=>zMX _ _,fun x y z=>zMW _ _ _⟩
section
variable {prog:Program}{w:World}{A:Around}{E:Value→Shared→Prop}{s:Shared}
theorem zUh {b:Bool}{sx sy:Nat}{Q:Bool→Shared→Prop}{us:List Value}{ns:List Int} (hn:IntsAre us ns):∀ {vs:List Value}{ms:List Int} (i:Nat),IntsAre vs ms→ns.length+sy=ms.length+sx →
  Q (HT.lexLt ns ms) s→W.KatLex prog w A b (decide (sx<sy)) Q (us.zip vs) i s:=by
 induction hn with
 | nil =>
  intro vs ms i hm hl h
  rw [qR1]
  refine W.kat_nil ?_
  cases hm with
  | nil=>rw [show decide (sx<sy)=false from decide_eq_false (by simp at hl; omega)]; exact h
  | cons m u hm=>rw [show decide (sx<sy)=true from decide_eq_true (by simp at hl; omega)]; exact h
 | cons n t hn ih =>
  intro vs ms i hm hl h
  cases hm with
  | nil =>
   rw [qQ4]
   refine W.kat_nil ?_
   rw [show decide (sx<sy)=false from decide_eq_false (by simp at hl; omega)]; exact h
  | cons m u hm =>
   rw [qK4]
   refine W.kat_cons (wpAny_eqBool_int ?_)
   rw [HT.lexLt_cons] at h
   by_cases e:n=m
   ·subst e
    rw [if_pos rfl] at h
    rw [show (n == n)=true by simp]
    exact W.kat_yes (ih (i+1) hm (by simp at hl; omega) h)
   ·rw [if_neg e] at h
    rw [show (n == m)=false by simpa using e]
    refine W.kat_no ?_
    cases hf:(b&&i == 0) with
    | true=>exact oneLt_int h
    | false=>exact W.kat_one _ _ (PyProof.Rows.lt_int h)
theorem zOo {κ:SortKind} (hk:κ=tuples' true∨κ=general'∨κ=oneType') (hu:A.units<cLine):Asks prog w A s κ (ltv s.heap) (fun x=>∃ ns,TupI s.heap x.1 ns):=by
 rintro ⟨x,x'⟩ ⟨y,y'⟩ ⟨ns,hx⟩ ⟨ms,hy⟩ Q hq
 unfold ltv at hq
 rw [hx.kd,hy.kd] at hq
 obtain ⟨a,its,e1,⟨o,ho,hc,n,hd⟩,hi⟩:=hx
 obtain ⟨b,jts,e2,⟨o2,ho2,hc2,n2,hd2⟩,hj⟩:=hy
 dsimp only at e1 e2 hq ⊢
 subst e1 e2
 rcases hk with rfl | rfl | rfl
 ·refine W.kat_lt ho hd ho2 hd2 (zUh hi 0 hj ?_ hq)
  rw [← hi.length,← hj.length]; simp; omega
 ·exact W.kat_one _ _ (HT.lt_tupInts ⟨o,ho,hc,n,hd⟩ ⟨o2,ho2,hc2,n2,hd2⟩ hi hj hu hq)
 ·rw [keyLt'_oneType,oneLt'_eq]
  simp only [if_true]
  refine wpAny_bind (wpAny_cRoomFor hu ?_)
  obtain ⟨cls,dd,data,sl⟩:=o
  obtain ⟨cls2,dd2,data2,sl2⟩:=o2
  simp only at hc hd hc2 hd2
  subst hc hd hc2 hd2
  refine wpAny_bind (wpAny_callSpecialIfBound?_slot ⟨_,ho,rfl⟩ PySem.F.slot_tuple_lt (call_meets PySem.F.slot_tuple_lt ⟨_,ho,rfl⟩ PySem.F.entry_tuple_lt (PySem.F.args_tuple_lt_2 _ _) (HT.tuple_lt_ints a b its jts n n2 dd dd2 sl sl2 ns ms hi hj) ⟨ho,ho2,?_⟩))
  exact wpAny_truthy_bool hq
theorem zGo:∀ (vs:List Value),(∀ v∈vs,∃ ns,TupI s.heap v ns)→∃ fs:List (Option Value),fs.length=vs.length∧(∀ f∈fs,∀ v,f=some v→∃ n t,v=.int n t)∧∀ {M:Model}{A:Around}{E:Value→Shared→Prop}{Q:List (Option Value)→Shared→Prop},Q fs s→wpAny M A (vs.mapM firstOfTuple') Q E s
 | [],_=>⟨[],rfl,fun f hf=>(by cases hf),fun h=>by rw [List.mapM_nil]; exact wpAny_pure h⟩
 | v::vs,hv=>by
  obtain ⟨fs,h1,h2,h3⟩:=zGo vs fun u hu=>hv u (qC0 _ hu)
  obtain ⟨ns,a,its,rfl,⟨o,ho,hc,n,hd⟩,hi⟩:=hv v (qD4 ..)
  refine ⟨its[0]?::fs,by simp [h1],fun f hf v e=>?_,fun {M A E Q} h=>?_⟩
  ·rcases qB9.mp hf with rfl | hf
   ·have:v∈its.toList:=by
     rw [← Array.getElem?_toList] at e
     exact qB5 e
    exact hi.all v this
   ·exact h2 f hf v e
  ·rw [qF6]
   refine wpAny_bind ?_
   rw [W.kas_first_eq]
   refine wpAny_bind (wpAny_typeOf (T := "tuple") ⟨o,ho,hc⟩ ?_)
   rw [if_neg (by first | decide | simp)]
   refine wpAny_bind (listItems_at ho hd (wpAny_pure ?_))
   exact wpAny_bind (h3 (wpAny_pure h))
theorem zOn {vs:List Value}{Q:SortKind→Shared→Prop} (hv:∀ v∈vs,∃ ns,TupI s.heap v ns) (h0:0<vs.length) (h:∀ κ,(κ=tuples' true∨κ=general'∨κ=oneType')→Q κ s) :
  wpAny (model prog w) A (keyKind' vs.toArray) Q E s:=by
 obtain ⟨fs,h1,h2,h3⟩:=zGo (s:=s) vs hv
 rw [PyProof.Rows.kat_kind_eq,qN8,map_eq_pure_bind]
 refine wpAny_bind (wpAny_bind (h3 (wpAny_pure ?_)))
 by_cases hall:(fs.toArray.all fun x=>x.isSome)=true
 ·rw [if_pos hall]
  refine wpAny_bind (wpAny_rule ?_)
  have hm:∀ v∈fs.filterMap id,∃ n t,v=.int n t:=fun v hv=>by
   obtain ⟨f,hf,e⟩:=qF9.mp hv
   exact h2 f hf v e
  have hp:0<(fs.filterMap id).length:=by
   cases fs with
   | nil=>simp at h1; omega
   | cons f fs =>
    cases f with
    | none=>simp at hall
    | some v=>simp
  have hfm:fs.toArray.filterMap id=(fs.filterMap id).toArray:=by simp
  rw [hfm,oneTypeOnly'_eq,qN8,map_eq_pure_bind]
  refine wpAny_bind (wpAny_bind (wpAny_bind (W.kas_mapM (r:=Value.type "int") _ (fun v hv Q' hq=>?_) (wpAny_pure ?_))))
  ·obtain ⟨n,t,rfl⟩:=hm v hv
   exact wpAny_pure hq
  ·obtain ⟨f₁,fr,e⟩:∃ f₁ fr,fs.filterMap id=f₁::fr:=by
    cases hq:fs.filterMap id with
    | nil=>rw [hq] at hp; simp at hp
    | cons a b=>exact ⟨a,b,rfl⟩
   rw [e]
   have h0:(qT5 (fun _=>Value.type "int") (f₁::fr)).toArray[0]?=some (Value.type "int"):=by simp
   have hall2:((qT5 (fun _=>Value.type "int") (f₁::fr)).toArray.all fun x=>x == Value.type "int")=true:=by
    simp only [qR9,qK9,qC2]
    intro _ _
    rfl
   rw [h0]
   simp only [hall2,if_true]
   exact wpAny_pure (wpAny_pure (h _ (.inl rfl)))
 ·rw [if_neg hall]
  split
  ·exact wpAny_pure (h _ (.inr (.inl rfl)))
  ·rw [oneTypeOnly'_eq,qN8,map_eq_pure_bind]
   refine wpAny_bind (wpAny_bind (wpAny_bind (W.kas_mapM (r:=Value.type "tuple") _ (fun v hv' Q' hq=>?_) (wpAny_pure ?_))))
   ·obtain ⟨ns,a,its,rfl,⟨o,ho,hc,n,hd⟩,hi⟩:=hv v hv'
    exact wpAny_typeOf (T := "tuple") ⟨o,ho,hc⟩ hq
   ·obtain ⟨f₁,fr,rfl⟩:∃ f₁ fr,vs=f₁::fr:=by
     cases vs with
     | nil=>simp at h0
     | cons a b=>exact ⟨a,b,rfl⟩
    have h0:(qT5 (fun _=>Value.type "tuple") (f₁::fr)).toArray[0]?=some (Value.type "tuple"):=by simp
    have hall2:((qT5 (fun _=>Value.type "tuple") (f₁::fr)).toArray.all fun x=>x == Value.type "tuple")=true:=by
     simp only [qR9,qK9,qC2]
     intro _ _
     rfl
    rw [h0]
    simp only [hall2,if_true]
    exact wpAny_pure (wpAny_pure (h _ (.inr (.inr rfl))))
theorem zMe {a:Addr}{vs:List Value}{n:Nat}{P:Fin→Shared→Prop} (ho:s.heap.get? a=some (seqObj "list" vs.toArray n)) (hv:∀ v∈vs,∃ ns,TupI s.heap v ns) (hz:vs.length≤sizeLine) (hu:A.units<cLine)
  (h:∀ out:List Value,out.Perm vs→out.Pairwise (fun x y=>HT.lexLt (kdv s.heap y) (kdv s.heap x)=false)→P (.done (.ret .none)) { s with heap:=sortedHeap s.heap a vs out.toArray }) :
  wpAny (model prog w) A (Builtin.«list.sort» ⟨[.ref a],[]⟩) P E s:=by
 rw [list_sort_plain]
 have ha:a<s.heap.objs.size:=qB6 ho
 refine wpAny_bind (listItems_at ho rfl ?_)
 refine wpAny_bind (listUpdate_at ho rfl ?_ (by rw [qA8]; exact hz) (qE1 _))
 obtain ⟨e1,ho1⟩:∃ e1,(s.heap.update a (Obj.mapSeq fun _=>#[])).get? a=some (seqObj "list" #[] e1):=⟨_,get?_update_seq ho (fun _=>#[])⟩
 refine wpAny_bind (seqEpoch_at ho1 rfl ?_)
 refine wpAny_bind (wpAny_newTuple ?_ hz)
 refine wpAny_bind (wpAny_newList ?_ (qE1 _))
 refine wpAny_holding ?_
 obtain ⟨h6,e6⟩:∃ h6,((s.heap.update a (Obj.mapSeq fun _=>#[])).push (seqObj "tuple" vs.toArray 0)).push (seqObj "list" #[] 0)=h6:=⟨_,rfl⟩
 have ho6:h6.get? a=some (seqObj "list" #[] e1):=by
  rw [← e6,qR3 _ _ _ (by rw [size_push',qS0]; exact qC7 (qG3 ha)),qR3 _ _ _ (by rw [qS0]; exact qC7 ha)]
  exact ho1
 have kp:∀ b o,o.cls=.type "tuple"→s.heap.get? b=some o→h6.get? b=some o:=fun b o hc q=>by
  have hb:b≠a:=fun e=>by subst e; rw [ho] at q; cases q; exact absurd (Value.type.inj hc) (by decide)
  rw [← e6]
  exact qA5 _ (qA5 _ ((qK7 _ _ (Ne.symm hb)).trans q))
 show wpAny (model prog w) A _ P E { s with heap:=((s.heap.update a (Obj.mapSeq fun _=>#[])).push (seqObj "tuple" vs.toArray 0)).push (seqObj "list" #[] 0) }
 rw [e6]
 dsimp only
 have hv6:∀ v∈vs,∃ ns,TupI h6 v ns:=fun v hm=>let ⟨ns,x⟩:=hv v hm; ⟨ns,x.mono kp⟩
 have kd6:∀ v∈vs,kdv h6 v=kdv s.heap v:=fun v hm=>by
  obtain ⟨ns,x⟩:=hv v hm
  rw [x.kd,(x.mono kp).kd]
 have fin:∀ out:List Value,out.Perm vs→out.Pairwise (fun x y=>HT.lexLt (kdv s.heap y) (kdv s.heap x)=false)→P (.done (.ret .none)) { s with heap:=h6.update a (Obj.mapSeq fun _=>out.toArray) }:=fun out a1 a2=>by
  rw [← e6]; exact h out a1 a2
 have hsz:vs.toArray.size=vs.length:=by simp
 by_cases h2:vs.toArray.size<2
 ·rw [if_pos h2,if_pos h2]
  refine wpAny_bind (wpAny_pure ?_)
  rw [StateT.run_pure]
  refine wpAny_bind (wpAny_pure ?_)
  dsimp only
  refine wpAny_bind (seqEpoch_at ho6 rfl ?_)
  have eo:((vs.toArray.zip vs.toArray).map (·.2))=vs.toArray:=by
   apply Array.ext'
   simp
   exact qO2 (qB0 _)
  rw [eo]
  refine wpAny_bind (listUpdate_at ho6 rfl ?_ (hsz2:=by rw [qA8]; omega))
  simp only [bne_self_eq_false,qD9,if_false]
  refine wpAny_pure (fin vs (.refl _) ?_)
  match vs,hsz,h2 with
  | [],_,_=>exact .nil
  | [v],_,_=>exact qE7 ..
  | _::_::_,hs,h2=>exact absurd h2 (by simp)
 ·rw [if_neg h2,if_neg h2]
  refine wpAny_bind (zOn (s:={ s with heap:=h6 }) hv6 (by omega) fun κ hκ=>?_)
  have ez:vs.toArray.zip vs.toArray=(vs.zip vs).toArray:=by simp
  rw [ez]
  refine wpAny_bind (wpAny_mono (zQF (l:=vs.zip vs) (s:={ s with heap:=h6 }) (Q:=fun _ st'=>∃ l',arrOf st'=l'.toArray∧failedOf st'=none∧l'.Perm (vs.zip vs)∧Srt (ltv h6) l') (zRC h6) (zOo (s:={ s with heap:=h6 }) hκ hu) (fun x hx=>hv6 _ (mem_zip_self hx).2) (by simp; omega)
   fun l' st' a1 a2 a3 a4=>⟨l',a1,a2,a3,a4⟩) ?_ fun _ _ e=>e)
  rintro ⟨⟨⟩,st'⟩ s' ⟨rfl,l',e1',hf,hp,hs⟩
  dsimp only
  refine wpAny_bind (seqEpoch_at ho6 rfl ?_)
  have eo:(arrOf st').map (·.2)=(l'.map (·.2)).toArray:=by rw [e1']; simp
  have po:(l'.map (·.2)).Perm vs:=by
   have:=hp.map (·.2)
   rwa [qO2 (qB0 _)] at this
  rw [eo]
  refine wpAny_bind (listUpdate_at ho6 rfl ?_ (hsz2:=by rw [qA8,po.length_eq]; omega))
  rw [hf]
  simp only [bne_self_eq_false,qD9,if_false]
  refine wpAny_pure (fin _ po ?_)
  rw [qN9]
  refine hs.imp_of_mem fun {x y} hx hy hxy=>?_
  have m1:=mem_zip_self (hp.mem_iff.mp hx)
  have m2:=mem_zip_self (hp.mem_iff.mp hy)
  unfold ltv at hxy
  rw [kd6 _ m1.2,kd6 _ m2.2] at hxy
  rw [← m1.1,← m2.1]
  exact hxy
end
open PySem PySem.Spec PyProof.Rows
section
variable {prog:Program}{w:World}{A:Around}{E:Value→Shared→Prop}{s:Shared}{r:Addr}
theorem zFs {T:String}{l:Addr}{vs:List Value}{Q:List Value→Shared→Prop}{o:Obj}{n:Nat} (ho:s.heap.get? l=some o) (hc:o.cls=.type T) (hd:o.data=.seq vs.toArray n) (hT:T = "list"∨T = "tuple")
  (h:Q vs { s with heap:=(s.heap.push (seqObj "list" #[] 0)).update s.heap.objs.size (Obj.mapSeq (·++vs.toArray)) }) (hsz:vs.length≤sizeLine) :
  wpAny (model prog w) A (collect (.ref l)) Q E s:=by
 unfold collect
 refine wpAny_bind (wpAny_runValue (codeAny_builtin entry_proto_collect' ?_))
 show wpAny _ _ (do again (.builtin "list.__iadd__" ⟨[← newList [],.ref l],[]⟩)) _ _ s
 refine wpAny_bind (wpAny_newList (wpAny_pure ⟨Code.quiet_builtin _ (by decide +kernel),codeAny_builtin entry_list_iadd' ?_⟩) (qE1 _))
 show wpAny _ _ (Builtin.List.listExtendWith (.ref s.heap.objs.size) (.ref l) (.ref s.heap.objs.size)) _ _ { s with heap:=s.heap.push (seqObj "list" #[] 0) }
 unfold Builtin.List.listExtendWith
 have ho':(s.heap.push (seqObj "list" #[] 0)).get? l=some o:=qA5 _ ho
 refine wpAny_bind (wpAny_typeOf (T:=T) ⟨o,ho',hc⟩ ?_)
 have ht:(Builtin.List.listSameRef (.ref s.heap.objs.size) (.ref l)||Value.type T == Value.type "list"||Value.type T == Value.type "tuple")=true:=by
  rcases hT with rfl | rfl
  ·rw [show (Value.type "list" == Value.type "list")=true from rfl]; simp
  ·rw [show (Value.type "tuple" == Value.type "tuple")=true from rfl]; simp
 rw [if_pos ht]
 refine wpAny_bind (listItems_at ho' hd ?_)
 refine wpAny_bind (listItems_at (xs:=#[]) (n:=0) (qB4 _ rfl) rfl ?_)
 rw [if_neg (by simp)]
 refine wpAny_bind (listUpdate_at (xs:=#[]) (n:=0) (qB4 _ rfl) rfl ?_ (qE1 _) (by show (#[]++vs.toArray).size≤sizeLine+1; simp only [Array.size_append,qA8,qI0]; omega))
 refine wpAny_pure ?_
 show wpAny (model prog w) A (do
   let o ← load s.heap.objs.size
   match o.data with
   | .seq xs _=>pure xs.toList
   | _=>unsupported "internal:collect") Q E { s with heap:=(s.heap.push (seqObj "list" #[] 0)).update s.heap.objs.size (Obj.mapSeq (·++vs.toArray)) }
 refine wpAny_bind (wpAny_load (get?_update_seq (qB4 _ rfl) _) ?_)
 show wpAny _ _ (pure ((#[]:Array Value)++vs.toArray).toList) Q E _
 rw [show ((#[]:Array Value)++vs.toArray).toList=vs by simp]
 exact wpAny_pure h
theorem zG9 (h:Heap) (vs:List Value):∀ b o,h.get? b=some o→((h.push (seqObj "list" #[] 0)).update h.objs.size (Obj.mapSeq (·++vs.toArray))).get? b=some o:=fun b o g=>by
 rw [Heap.get?_update_ne _ _ _ _ (qC7 (qB6 g))]
 exact qA5 _ g
theorem zIY {α β:Type} (f:α→β) {m n:List β} (h:m.Perm n):∀ l:List α,n=l.map f→∃ l':List α,l'.Perm l∧m=l'.map f:=by
 induction h with
 | nil=>intro l e; exact ⟨[],by cases l with | nil=>exact .refl _ | cons _ _=>simp at e,rfl⟩
 | cons x p ih =>
  intro l e
  cases l with
  | nil=>simp at e
  | cons a l =>
   rw [qC1] at e
   injection e with e1 e2
   obtain ⟨l',p',q⟩:=ih l e2
   exact ⟨a::l',p'.cons a,by rw [qC1,e1,q]⟩
 | swap x y l =>
  intro l e
  match l,e with
  | [],e=>simp at e
  | [_],e=>simp at e
  | a::b::l,e =>
   simp only [qC1] at e
   injection e with e1 e2
   injection e2 with e2 e3
   exact ⟨b::a::l,.swap a b l,by simp [e1,e2,e3]⟩
 | trans p q ih1 ih2 =>
  intro l e
  obtain ⟨l1,p1,e1⟩:=ih2 l e
  obtain ⟨l2,p2,e2⟩:=ih1 l1 e1
  exact ⟨l2,p2.trans p1,e2⟩
abbrev LexS (ts:List (Addr × List Int)):Prop:=ts.Pairwise fun x y=>HT.lexLt y.2 x.2=false
theorem zG5 {Q:Value→Shared→Prop}{ts:List (Addr × List Int)} (hl:ts.length≤sizeLine) (hT:∀ t∈ts,TupI s.heap (.ref t.1) t.2) (hu:A.units+2<cLine)
  (hc:∀ (A:Around) (E:Value→Shared→Prop) (R:List Value→Shared→Prop),A.handled=none→(∀ (h':Heap) (tk:Nat) (dr:Drawn),(∀ b o,s.heap.get? b=some o→h'.get? b=some o)→R (ts.map fun t=>.ref t.1) { s with heap:=h',toks:=tk,drawn:=dr })→wpAny (model prog w) A (collect (.ref r)) R E s)
  (hh:A.handled=none)
  (h:∀ (h1:Heap) (l:Addr) (h':Heap) (tk:Nat) (dr:Drawn) (e:Nat) (ts':List (Addr × List Int)),(∀ b o,s.heap.get? b=some o→h1.get? b=some o)→(∀ b o,h1.get? b=some o→h'.get? b=some o)→h1.objs.size≤l→h'.get? l=some (seqObj "list" (ts'.map fun t=>Value.ref t.1).toArray e)→ts'.Perm ts→LexS ts'→Q (.ref l) { s with heap:=h',toks:=tk,drawn:=dr }) :
  wpAny (model prog w) A (call (.builtin "sorted") [.ref r]) Q E s:=by
 refine Calls.call_function_entry kind_sorted plain_sorted entry_sorted (args_sorted1 _) ?_
 unfold Builtin.«sorted»
 refine wpAny_bind (m:=checkCount "sorted" 1 1 _) (wpAny_pure ?_)
 refine wpAny_bind (hc _ _ _ hh fun h' tk dr hk=>?_)
 have hlen:(ts.map fun t=>Value.ref t.1).length=ts.length:=by simp
 refine wpAny_bind (wpAny_newList ?_ (by rw [hlen]; exact hl))
 have hoL:(h'.push (seqObj "list" (ts.map fun t=>Value.ref t.1).toArray 0)).get? h'.objs.size=some (seqObj "list" (ts.map fun t=>Value.ref t.1).toArray 0):=qB4 _ rfl
 show wpAny _ _ _ _ _ { s with heap:=h'.push (seqObj "list" (ts.map fun t=>Value.ref t.1).toArray 0),toks:=tk,drawn:=dr }
 have tI:∀ t∈ts,TupI (h'.push (seqObj "list" (ts.map fun t=>Value.ref t.1).toArray 0)) (.ref t.1) t.2:=fun t ht=>(hT t ht).mono fun b o _ g=>qA5 _ (hk b o g)
 refine wpAny_bind (wpAny_holding (wpAny_call_entry slot_list_sort ⟨_,hoL,rfl⟩ entry_list_sort (zMe hoL (fun v hv=>?_) (by rw [hlen]; exact hl) (by show A.units+1+1<cLine; omega) fun out a1 a2=>⟨_,rfl,?_⟩) (args_list_sort _)))
 ·obtain ⟨t,ht,rfl⟩:=qC8.mp hv
  exact ⟨t.2,tI t ht⟩
 obtain ⟨ts',p',rfl⟩:=zIY _ a1 ts rfl
 obtain ⟨e,he⟩:=sortedHeap_at (out:=(ts'.map fun t=>Value.ref t.1).toArray) hoL
 refine wpAny_pure ⟨_,rfl,h h' h'.objs.size _ tk dr e ts' hk (fun b o g=>?_) (qB0 _) he p' ?_⟩
 ·have lt:b<h'.objs.size:=qB6 g
  rw [sortedHeap_old (qC7 lt) (by rw [size_push']; exact qG3 lt)]
  exact qA5 _ g
 ·rw [qN9] at a2
  refine a2.imp_of_mem fun {x y} hx hy hxy=>?_
  rwa [(tI x (p'.mem_iff.mp hx)).kd,(tI y (p'.mem_iff.mp hy)).kd] at hxy
end
section
variable {X:Cx}
theorem zM3 {pins:List (Addr × Obj)}{σ:St}{H:Hp}{s:Shared}{a:Addr}{ns:List Int} (I:Inv X pins σ H s) (h:SqT X.K H a (ns.map V.int)):TupI s.heap (.ref a) ns:=by
 obtain ⟨its,r,p,_⟩:=I.tuple h
 exact ⟨a,its.toArray,rfl,p,by simpa using zEm r⟩
theorem zHF:∀ {ts:List (Addr × List Int)}{us:List Value},Vals (ts.map fun t=>V.ref t.1) us→us=ts.map fun t=>Value.ref t.1
 | [],us,r=>by rw [qI1] at r; cases r; rfl
 | t::ts,us,r=>by
  rw [qC1] at r
  cases r with
  | cons h r =>
   rw [zHF r]
   cases h
   rfl
theorem zEP:∀ (ts:List (Addr × List Int)),Vals (ts.map fun t=>V.ref t.1) (ts.map fun t=>Value.ref t.1)
 | []=>.nil
 | t::ts=>.cons rfl (zEP ts)
theorem zIl (hc:X.calm=true):zAV X (.builtin "sorted") (fun vs H Q=>∃ (p:Addr) (ns:List Int),vs=[.ref p]∧SqT X.K H p (ns.map V.int)∧ns.length<64∧∀ (l:Addr) (ms:List Int),H l=none→ms.Perm ns→ms.Pairwise (·≤·)→Q (.ref l) (upd H l (.lst (ms.map V.int)))):=by
 intro pins s σ H xs us Q I r h
 obtain ⟨p,ns,rfl,hq,hn,q⟩:=h
 obtain ⟨u,rfl,ru⟩:=zCP r
 cases ru
 obtain ⟨its,rv,⟨o,ho,hcl,n,hd⟩,hz⟩:=I.tuple hq
 have hlen:=rv.length
 rw [qA2] at hlen
 refine zHw hn (fun A E R hA hR=>zFs ho hcl hd (.inr rfl) (hR _ s.toks s.drawn its ns (zG9 _ _) (zEm rv) (.refl _)) (by rw [← hlen,sizeLine_eq]; omega)) (I.ok.hd hc) fun h2 l2 h3 tk3 dr e us ms k2 k3 le g3 hi hpm hw=>?_
 have I2:Inv X pins σ H { s with heap:=h2,toks:=tk3,drawn:=dr }:=(I.kept (t':=tk3) fun b o e=>k2 b o e).dr dr
 refine ⟨.ref l2,_,I2.laid (t':=tk3) (o:=.lst (ms.map V.int)) k3 le ?_,rfl,q _ _ (I2.hok.fresh le) hpm hw⟩
 have hl2:ms.length<64:=by rw [hpm.length_eq]; exact hn
 exact ⟨by rw [qA2]; exact qC5 (qG7 hl2) (by decide),us,e,zFc hi,by simpa [seqObj] using g3⟩
theorem zH3 (hc:X.calm=true) (hu:X.A.units+2<cLine):zAV X (.builtin "sorted") (fun vs H Q=>∃ (p:Addr) (ts:List (Addr × List Int)),vs=[.ref p]∧SqL X.K H p (ts.map fun t=>V.ref t.1)∧(∀ t∈ts,SqT X.K H t.1 (t.2.map V.int)) ∧
  ∀ (l:Addr) (ts':List (Addr × List Int)),H l=none→ts'.Perm ts→LexS ts'→Q (.ref l) (upd H l (.lst (ts'.map fun t=>V.ref t.1)))):=by
 intro pins s σ H xs us Q I r h
 obtain ⟨p,ts,rfl,hq,ht,q⟩:=h
 obtain ⟨u,rfl,ru⟩:=zCP r
 cases ru
 obtain ⟨its,rv,⟨o,n,ho,hcl,hdd,hd⟩,hz⟩:=I.list hq
 have ei:=zHF rv
 subst ei
 rw [qA2] at hz
 refine zG5 hz (fun t h=>zM3 I (ht t h)) hu (fun A E R hA hR=>zFs ho hcl hd (.inl rfl) (hR _ s.toks s.drawn (zG9 _ _)) (by rw [qA2]; exact hz)) (I.ok.hd hc) fun h2 l2 h3 tk3 dr e ts' k2 k3 le g3 hp hs=>?_
 have I2:Inv X pins σ H { s with heap:=h2,toks:=tk3,drawn:=dr }:=(I.kept (t':=tk3) fun b o e=>k2 b o e).dr dr
 refine ⟨.ref l2,_,I2.laid (t':=tk3) (o:=.lst (ts'.map fun t=>V.ref t.1)) k3 le ?_,rfl,q _ _ (I2.hok.fresh le) hp hs⟩
 exact ⟨by rw [qA2,hp.length_eq]; exact hz,_,e,zEP ts',by simpa [seqObj] using g3⟩
theorem zRT {prog:Program}{w:World}{d:Addr}{es:Array DictEntry}{ep:Nat} (lo:(d == sysModules)=false):W.KdlSrc prog w "dict" d d es.size (fun i v=>∃ e,es[i]?=some e∧v=e.key) (fun h=>Raw h d es ep) where
 type:=fun _ ⟨o,ho,hc,_⟩=>⟨o,ho,hc⟩
 there:=fun _ hm=>⟨hm.lt,hm.lt⟩
 keep:=fun _ _ hm hk=>hm.at fun o e=>hk d (.inl rfl) o e
 notList:=by decide
 notTuple:=by decide
 hint:=fun _ _ _ _ ⟨o,ho,hc,_⟩ hq=>W.kdl_hint_dict ⟨o,ho,hc⟩ hq
 iter:=fun A s hh hm=>⟨_,fun i h=>h.IsKeyIter s.heap.objs.size d i es.size ep∧Raw h d es ep,(fun _ _ hq=>zPi lo hm hq),{
  sub:=fun b hb=>by simp at hb; simp [hb]
  frame:=fun _ _ _ st hk=>⟨st.1.at fun o e=>hk _ (by simp) o e,st.2.at fun o e=>hk d (by simp) o e⟩
  item:=fun i s' Q E hi st hQ=>by
   refine zX0 st.1 st.2 (show es[i]?=some es[i] by simp [hi]) fun h' hit hs=>?_
   exact hQ _ h' s'.toks ⟨_,by simp [hi],rfl⟩ ⟨hit,st.2.at fun o e=>hs.extBut d o (qC7 hm.lt) e⟩ fun b o hb e=>hs.extBut b o (fun h=>hb (by simp [h])) e
  done:=fun s' Q E st hQ=>kend hh st.1 st.2 (by simp) fun h' he'=>hQ h' s'.toks fun b o hb e=>he' b o (fun h=>hb (by simp [h])) e
  self:=fun _ _ _ _ st hQ=>wpAny_pyIter_keyiter st.1 hQ },⟨⟨_,qB4 _ rfl,rfl,rfl⟩,hm.at fun o e=>qA5 _ e⟩⟩
theorem zRR {H:Hp}:∀ {nss:List (List Int)}{kvs:List (List Key × V)}{xs:List (List Key × Addr × Value)},KT H kvs xs→kvs.map (·.1)=nss.map (·.map Sum.inl)→∃ ts:List (Addr × List Int),ts.map (·.2)=nss∧xs.map (fun x=>x.2.1)=ts.map (·.1)∧∀ t∈ts,H t.1=some (.tup (t.2.map V.int)):=by
 intro nss kvs xs r
 induction r generalizing nss with
 | nil =>
  intro e
  cases nss with
  | nil=>exact ⟨[],rfl,rfl,fun t h=>(by cases h)⟩
  | cons _ _=>simp at e
 | @cons p q ps qs hq t ih =>
  intro e
  cases nss with
  | nil=>simp at e
  | cons ns nss =>
   simp only [qC1] at e
   injection e with e1 e2
   obtain ⟨ts,a,b,c⟩:=ih e2
   refine ⟨(q.2.1,ns)::ts,by simp [a],by simp [b],fun t ht=>?_⟩
   rcases qB9.mp ht with rfl | ht
   ·have:=hq.2.1
    rw [e1,qF7] at this
    exact this
   ·exact c t ht
theorem zH4 (hc:X.calm=true) (hu:X.A.units+2<cLine):zAV X (.builtin "sorted") (fun vs H Q=>∃ (p:Addr) (kvs:List (List Key × V)) (nss:List (List Int)),vs=[.ref p]∧H p=some (.dT kvs)∧kvs.map (·.1)=nss.map (·.map Sum.inl) ∧
  ∀ (l:Addr) (ts:List (Addr × List Int)),H l=none→(∀ t∈ts,H t.1=some (.tup (t.2.map V.int)))→(ts.map (·.2)).Perm nss→LexS ts→Q (.ref l) (upd H l (.lst (ts.map fun t=>V.ref t.1)))):=by
 intro pins s σ H xs us Q I r h
 obtain ⟨p,kvs,nss,rfl,hp,hk,q⟩:=h
 obtain ⟨u,rfl,ru⟩:=zCP r
 cases ru
 obtain ⟨hz,lo,xs,kt,o,es,ep,ho,hx,hd,he,hn⟩:=(show zBL X.prog X.w H s.heap p (.dT kvs) from I.hok p _ hp)
 obtain ⟨ts,t1,t2,t3⟩:=zRR kt hk
 have hl:es.size=ts.length:=by
  have a1:=congrArg qK5 he
  have a2:=congrArg qK5 t2
  simp at a1 a2
  omega
 have hl2:ts.length≤sizeLine:=by
  have a1:=congrArg qK5 t1
  have a2:=congrArg qK5 hk
  simp at a1 a2
  omega
 have raw:Raw s.heap p es ep:=⟨o,ho,hx.1,hd⟩
 refine zG5 hl2 (fun t h=>zM3 I (SqT.of (t3 t h))) hu (fun A E R hA hR=>W.kdu_collect (zRT (es:=es) (ep:=ep) lo) hA raw (by omega) fun h' tk acc hk2 hacc=>?_) (I.ok.hd hc) fun h2 l2 h3 tk3 dr e ts' k2 k3 le g3 hp2 hs=>?_
 ·have ea:acc.toList=ts.map fun t=>Value.ref t.1:=by
   apply List.ext_getElem?
   intro j
   have hsz:acc.toList.length=ts.length:=by rw [Array.length_toList,hacc.1,hl]
   by_cases hj:j<ts.length
   ·obtain ⟨v,ev⟩:∃ v,acc.toList[j]?=some v:=⟨_,qA6 (by omega)⟩
    obtain ⟨en,e3,e4⟩:=hacc.2 j v (by rw [← Array.getElem?_toList]; exact ev)
    rw [ev,e4,← Array.getElem?_toList,he,qB7] at *
    obtain ⟨x,e5,e6⟩:=qA4.mp e3
    have e7:=congrArg (·[j]?) t2
    simp only [qB7,e5,qO9] at e7
    obtain ⟨t,e8,e9⟩:=qA4.mp e7.symm
    rw [e8,← e6]
    simp [entryOfKey,e9]
   ·rw [qL5 (by omega),qL5 (by simp; omega)]
  rw [ea]
  exact hR h' tk s.drawn hk2
 ·have I2:Inv X pins σ H { s with heap:=h2,toks:=tk3,drawn:=dr }:=(I.kept (t':=tk3) fun b o e=>k2 b o e).dr dr
  refine ⟨.ref l2,_,I2.laid (t':=tk3) (o:=.lst (ts'.map fun t=>V.ref t.1)) k3 le ?_,rfl,q _ _ (I2.hok.fresh le) (fun t h=>t3 t (hp2.mem_iff.mp h)) (by rw [← t1]; exact hp2.map _) hs⟩
  exact ⟨by rw [qA2,hp2.length_eq]; exact hl2,_,e,zEP ts',by simpa [seqObj] using g3⟩
end
open PySem PySem.Spec PyProof.Rows
section
variable {X:Cx}
theorem zLD:zAV X (.builtin "repr") (fun xs H Q=>xs=[.non]∧Q (.str "None") H):=by
 intro pins s σ H xs us Q I rv h
 obtain ⟨rfl,q⟩:=h
 obtain ⟨u,rfl,ru⟩:=rv.one
 obtain rfl:u=Value.none:=ru
 exact PySem.P.repr_of_none ⟨.str "None",H,I.kept (t':=s.toks+1) fun b o e=>e,⟨_,rfl⟩,q⟩
theorem zHP {prog:Program}{w:World}{K:Type} [DecidableEq K] {knd:KeyKind prog w K} (d:Addr) {k:K}{key:Value} (hkey:knd.is k key=true) (dv:Value) (lo:(d == sysModules)=false):MeetsIn prog w (Builtin.«dict.setdefault» ⟨[.ref d,key,dv],[]⟩) (fun _ R s=>∃ kvs,s.heap.DictOf knd d kvs∧kvs.length≤sizeLine ∧
   (∀ v,valueAt kvs k=some v→R (.ok (.ret v)) { s with toks:=s.toks+1 }) ∧
   (valueAt kvs k=none→∀ h',h'.DictOf knd d (stored kvs k dv)→qE2 d s.heap h'→R (.ok (.ret dv)) { s with heap:=h',toks:=s.toks+1 })) :=
 .of_wp fun A R s ⟨kvs,hm,hz,h1,h2⟩=>by
  unfold Builtin.«dict.setdefault» Builtin.Dict.keyAndDefault
  refine wpAny_bind (wpAny_bind (wpAny_notOrdered_dict hm.typeIs (wpAny_pure ?_)))
  show wpAny _ _ (if (d == sysModules)=true then _ else (dictSetDefault d key dv >>= _)) _ _ s
  rw [if_neg (by rw [lo]; exact qB1)]
  exact wpAny_bind (kt_dictSetDefault_pairs (hsz:=hz) hkey hm (fun v hv=>wpAny_pure ⟨v,rfl,h1 v hv⟩) fun hn h' hm' hs'=>wpAny_pure ⟨dv,rfl,h2 hn h' hm' hs'⟩)
theorem zGc:MtR X "dict.setdefault" (fun x vs H Q=>∃ a kvs k z,x=.ref a∧vs=[kV k,z]∧H a=some (.dK kvs)∧(∀ v,valV kvs k=some v→Q v H)∧(valV kvs k=none→kvs.length<sizeLine∧Q z (upd H a (.dK (putK kvs k z))))):=by
 intro pins s σ H x xs v us Q I rx rs h
 obtain ⟨a,kvs,k,z,rfl,rfl,ha,h1,h2⟩:=h
 cases rx
 obtain ⟨u1,u2,rfl,r1,r2⟩:=zKM rs
 obtain ⟨z0,lo,vs,rel,dd⟩:=zNA I.hok ha
 have hz:vs.length≤sizeLine:=by rw [← rel.length]; exact z0
 refine call_meetsIn PySem.F.slot_dict_setdefault dd.typeIs PySem.F.entry_dict_setdefault (PySem.F.args_dict_setdefault_3 _ _ _) (zHP a (zJ8 (P:=X.prog) (w:=X.w) r1) u2 lo) ⟨vs,dd,hz,fun p e=>?_,fun e h' d' hs=>?_⟩
 ·have q:=rel.val k
  rw [e] at q
  cases q2:valV kvs k with
  | none=>rw [q2] at q; exact False.elim q
  | some v=>rw [q2] at q; exact ⟨v,H,I.tok _,q,h1 v q2⟩
 ·have q:=rel.val k
  rw [e] at q
  have q2:valV kvs k=none:=by
   cases q2:valV kvs k with
   | none=>rfl
   | some v=>rw [q2] at q; exact False.elim q
  have hl:(putK kvs k z).length≤sizeLine:=by have:=zCE kvs k z; have:=(h2 q2).1; omega
  have he:∃ q,h'.get? a=some q:=let ⟨q,_,_,hq,_⟩:=d'; ⟨q,hq⟩
  exact ⟨z,upd H a (.dK (putK kvs k z)),zFp I (by rw [ha]; exact True.intro) hs he (zNB hl lo (rel.put k r2) d'),r2,(h2 q2).2⟩
end
open PySem PySem.Spec PyProof.Rows
inductive D where
 | non | bl (b:Bool) | int (i:Int) | str (x:Str) | ty (n:String) | tup (xs:List D) | lst (n:Nat) | dct (n:Nat) | rol (xs:List D)
inductive O where
 | lst (xs:List D) | dk (kvs:List (Key × D)) | dt (kvs:List (List Key × D))
noncomputable abbrev zA0:=List O
noncomputable abbrev Env1:=List (Option D)
def SqF (K:W.Frag) (H:Hp) (a:Addr) (xs:List V):Prop:=(∃ o,H a=some (.frz o (.lst xs))) ∨
  ∃ (o:Obj) (its:Array Value) (n:Nat),K.lookup a=some o∧o.cls=.type "list"∧o.dict=none∧o.data=.seq its n∧its.size≤sizeLine∧Vals xs its.toList
theorem SqF.sq {K:W.Frag}{H:Hp}{a:Addr}{xs:List V} (h:SqF K H a xs):SqL K H a xs:=by
 rcases h with ⟨o,h⟩ | h
 ·exact .inl (.inr ⟨o,h⟩)
 ·exact .inr h
structure TF (K:W.Frag) (H H':Hp):Prop where
 t:TK K H H'
 f:∀ a xs,SqF K H a xs→SqF K H' a xs
 u:∀ a xs,H a=some (.tup xs)→H' a=some (.tup xs)
theorem TF.refl (K:W.Frag) (H:Hp):TF K H H:=⟨TK.refl K H,fun _ _ h=>h,fun _ _ h=>h⟩
theorem TF.trans {K:W.Frag}{H H1 H2:Hp} (a:TF K H H1) (b:TF K H1 H2):TF K H H2:=⟨a.t.trans b.t,fun p xs h=>b.f p xs (a.f p xs h),fun p xs h=>b.u p xs (a.u p xs h)⟩
theorem zVS {K:W.Frag}{H H':Hp}{p:Addr} (h:∀ q o,q≠p→H q=some o→H' q=some o) (nt:∀ xs,H p≠some (.tup xs)) (nf:∀ x y,H p≠some (.frz x y)):TF K H H':=by
 refine ⟨fun q ys e=>?_,fun q ys e=>?_,fun q ys e=>h _ _ (fun z=>nt _ (z▸e)) e⟩
 ·rcases e with (e | ⟨w,e⟩) | e
  ·exact .inl (.inl (h _ _ (fun z=>nt _ (z▸e)) e))
  ·exact .inl (.inr ⟨w,h _ _ (fun z=>nf _ _ (z▸e)) e⟩)
  ·exact .inr e
 ·rcases e with ⟨w,e⟩ | e
  ·exact .inl ⟨w,h _ _ (fun z=>nf _ _ (z▸e)) e⟩
  ·exact .inr e
theorem zDI {K:W.Frag}{H:Hp}{p:Addr}{u o:HO} (e:H p=some u) (nt:∀ xs,u≠.tup xs) (nf:∀ x y,u≠.frz x y):TF K H (upd H p o) :=
 zVS (p:=p) (fun q v hq h=>by rw [zAa hq]; exact h) (fun xs h=>by rw [e] at h; exact nt xs (Option.some.inj h)) (fun x y h=>by rw [e] at h; exact nf x y (Option.some.inj h))
theorem zK2 {K:W.Frag}{H:Hp}{p:Addr}{xs:List V}{o:HO} (e:H p=some (.lst xs)):TF K H (upd H p o):=zDI e (fun _ z=>by cases z) (fun _ _ z=>by cases z)
theorem zM7 {K:W.Frag}{H H':Hp} (h:Same H H'):TF K H H':=⟨fun p xs e=>h.tup e,fun q ys e=>by
 rcases e with ⟨w,e⟩ | e
 ·exact .inl ⟨w,h _ _ e⟩
 ·exact .inr e,fun _ _ e=>h _ _ e⟩
mutual
noncomputable def RV (K:W.Frag) (H:Hp) (μ:List Addr):D→V→Prop
 | .non,v=>v=.non
 | .bl b,v=>v=.bl b
 | .int i,v=>v=.int i
 | .str x,v=>v=.str x
 | .ty n,v=>v=.ty n
 | .tup xs,v=>∃ p vs,v=.ref p∧H p=some (.tup vs)∧RVs K H μ xs vs
 | .lst n,v=>∃ a,v=.ref a∧μ[n]?=some a
 | .dct n,v=>∃ a,v=.ref a∧μ[n]?=some a
 | .rol xs,v=>∃ p vs,v=.ref p∧SqF K H p vs∧RVs K H μ xs vs
noncomputable def RVs (K:W.Frag) (H:Hp) (μ:List Addr):List D→List V→Prop
 | [],vs=>vs=[]
 | d::ds,vs=>∃ v ws,vs=v::ws∧RV K H μ d v∧RVs K H μ ds ws
end
def RKs {κ:Type} (K:W.Frag) (H:Hp) (μ:List Addr) (kvs:List (κ × D)) (ws:List (κ × V)):Prop:=kvs.map (·.1)=ws.map (·.1)∧RVs K H μ (kvs.map (·.2)) (ws.map (·.2))
noncomputable def OR (K:W.Frag) (H:Hp) (μ:List Addr) (a:Addr):O→Prop
 | .lst xs=>∃ vs,H a=some (.lst vs)∧RVs K H μ xs vs
 | .dk kvs=>∃ ws,H a=some (.dK ws)∧RKs K H μ kvs ws
 | .dt kvs=>∃ ws,H a=some (.dT ws)∧RKs K H μ kvs ws
structure SR (K:W.Frag) (μ:List Addr) (S:zA0) (H:Hp):Prop where
 len:μ.length=S.length
 nd:μ.Nodup
 obj:∀ (n:Nat) (a:Addr) (o:O),μ[n]?=some a→S[n]?=some o→OR K H μ a o
structure Step (K:W.Frag) (μ μ':List Addr) (H H':Hp):Prop where
 pre:∃ ν,μ'=μ++ν∧∀ b∈ν,H b=none
 fr:∀ b o,b∉μ→H b=some o→H' b=some o
 tk:TF K H H'
section
variable {K:W.Frag}{H H' H1 H2:Hp}{μ μ' μ1 μ2:List Addr}{S S':zA0}
mutual
theorem RV.up (tk:TF K H H') (pre:∃ ν,μ'=μ++ν):∀ (d:D) (v:V),RV K H μ d v→RV K H' μ' d v
 | .non,v,h=>by simpa [RV] using h
 | .bl b,v,h=>by simpa [RV] using h
 | .int i,v,h=>by simpa [RV] using h
 | .str x,v,h=>by simpa [RV] using h
 | .ty n,v,h=>by simpa [RV] using h
 | .tup xs,v,h=>by
  unfold RV at h ⊢
  obtain ⟨p,vs,e,q,r⟩:=h
  exact ⟨p,vs,e,tk.u p vs q,RVs.up tk pre xs vs r⟩
 | .lst n,v,h=>by
  unfold RV at h ⊢
  obtain ⟨a,e,q⟩:=h
  obtain ⟨ν,rfl⟩:=pre
  exact ⟨a,e,by rw [qA7 (qA1.mp q).1]; exact q⟩
 | .dct n,v,h=>by
  unfold RV at h ⊢
  obtain ⟨a,e,q⟩:=h
  obtain ⟨ν,rfl⟩:=pre
  exact ⟨a,e,by rw [qA7 (qA1.mp q).1]; exact q⟩
 | .rol xs,v,h=>by
  unfold RV at h ⊢
  obtain ⟨p,vs,e,q,r⟩:=h
  exact ⟨p,vs,e,tk.f p vs q,RVs.up tk pre xs vs r⟩
theorem RVs.up (tk:TF K H H') (pre:∃ ν,μ'=μ++ν):∀ (ds:List D) (vs:List V),RVs K H μ ds vs→RVs K H' μ' ds vs
 | [],vs,h=>by simpa [RVs] using h
 | d::ds,vs,h=>by
  unfold RVs at h ⊢
  obtain ⟨v,ws,e,r,q⟩:=h
  exact ⟨v,ws,e,RV.up tk pre d v r,RVs.up tk pre ds ws q⟩
end
theorem RVs.len:∀ {ds:List D}{vs:List V},RVs K H μ ds vs→ds.length=vs.length
 | [],vs,h=>by unfold RVs at h; subst h; rfl
 | d::ds,vs,h=>by
  unfold RVs at h
  obtain ⟨v,ws,rfl,_,q⟩:=h
  rw [qD0,qD0,RVs.len q]
theorem RVs.nil:RVs K H μ [] []:=by unfold RVs; rfl
theorem RVs.cons {d:D}{v:V}{ds:List D}{vs:List V} (h:RV K H μ d v) (t:RVs K H μ ds vs):RVs K H μ (d::ds) (v::vs):=by
 unfold RVs; exact ⟨v,vs,rfl,h,t⟩
theorem RVs.get:∀ {ds:List D}{vs:List V}{i:Nat}{d:D},RVs K H μ ds vs→ds[i]?=some d→∃ v,vs[i]?=some v∧RV K H μ d v
 | [],vs,i,d,h,e=>by simp at e
 | x::ds,vs,0,d,h,e=>by
  unfold RVs at h
  obtain ⟨v,ws,rfl,r,q⟩:=h
  simp at e; subst e
  exact ⟨v,rfl,r⟩
 | x::ds,vs,i+1,d,h,e=>by
  unfold RVs at h
  obtain ⟨v,ws,rfl,r,q⟩:=h
  obtain ⟨u,e1,e2⟩:=RVs.get (i:=i) (d:=d) q (by simpa using e)
  exact ⟨u,by simpa using e1,e2⟩
theorem RVs.append:∀ {ds es:List D}{vs us:List V},RVs K H μ ds vs→RVs K H μ es us→RVs K H μ (ds++es) (vs++us)
 | [],es,vs,us,h,g=>by unfold RVs at h; subst h; exact g
 | d::ds,es,vs,us,h,g=>by
  unfold RVs at h
  obtain ⟨v,ws,rfl,r,q⟩:=h
  exact .cons r (RVs.append q g)
theorem RVs.take:∀ {ds:List D}{vs:List V} (n:Nat),RVs K H μ ds vs→RVs K H μ (ds.take n) (vs.take n)
 | _,_,0,_=>by simp; exact .nil
 | [],vs,n+1,h=>by unfold RVs at h; subst h; exact .nil
 | d::ds,vs,n+1,h=>by
  unfold RVs at h
  obtain ⟨v,ws,rfl,r,q⟩:=h
  exact .cons r (RVs.take n q)
theorem RVs.drop:∀ {ds:List D}{vs:List V} (n:Nat),RVs K H μ ds vs→RVs K H μ (ds.drop n) (vs.drop n)
 | _,_,0,h=>by simpa using h
 | [],vs,n+1,h=>by unfold RVs at h; subst h; exact .nil
 | d::ds,vs,n+1,h=>by
  unfold RVs at h
  obtain ⟨v,ws,rfl,r,q⟩:=h
  exact RVs.drop n q
theorem RVs.set {d:D}{v:V} (g:RV K H μ d v):∀ {ds:List D}{vs:List V} (n:Nat),RVs K H μ ds vs→RVs K H μ (ds.set n d) (vs.set n v)
 | [],vs,n,h=>by unfold RVs at h; subst h; exact .nil
 | x::ds,vs,0,h=>by
  unfold RVs at h
  obtain ⟨u,ws,rfl,r,q⟩:=h
  exact .cons g q
 | x::ds,vs,n+1,h=>by
  unfold RVs at h
  obtain ⟨u,ws,rfl,r,q⟩:=h
  exact .cons r (RVs.set g n q)
theorem RVs.ints {ns:List Int}:RVs K H μ (ns.map D.int) (ns.map V.int):=by
 induction ns with
 | nil=>exact .nil
 | cons a r ih=>exact .cons (by unfold RV; rfl) ih
theorem RKs.up {κ:Type} (tk:TF K H H') (pre:∃ ν,μ'=μ++ν) {kvs:List (κ × D)}{ws:List (κ × V)} (h:RKs K H μ kvs ws):RKs K H' μ' kvs ws:=⟨h.1,RVs.up tk pre _ _ h.2⟩
theorem SR.isS (sr:SR K μ S H) {a:Addr} (h:a∈μ):∃ o,H a=some o:=by
 obtain ⟨n,hn⟩:=qM3 h
 have hl:n<S.length:=by rw [← sr.len]; exact (qA1.mp hn).1
 have q:=sr.obj n a S[n] hn (qA6 hl)
 revert q
 generalize S[n]=o
 intro q
 cases o with
 | lst xs=>obtain ⟨vs,e,_⟩:=q; exact ⟨_,e⟩
 | dk kvs=>obtain ⟨vs,e,_⟩:=q; exact ⟨_,e⟩
 | dt kvs=>obtain ⟨vs,e,_⟩:=q; exact ⟨_,e⟩
theorem SR.out (sr:SR K μ S H) {a:Addr} (h:H a=none):a∉μ:=fun m=>by
 obtain ⟨o,e⟩:=sr.isS m
 rw [h] at e
 cases e
theorem Step.refl (K:W.Frag) (μ:List Addr) (H:Hp):Step K μ μ H H:=⟨⟨[],by simp,by simp⟩,fun _ _ _ h=>h,TF.refl K H⟩
theorem Step.mem (st:Step K μ μ' H H') {a:Addr} (h:a∈μ):a∈μ':=by
 obtain ⟨ν,rfl,_⟩:=st.pre
 exact qD5 _ h
theorem Step.ext (st:Step K μ μ' H H'):∃ ν,μ'=μ++ν:=let ⟨ν,e,_⟩:=st.pre; ⟨ν,e⟩
theorem Step.trans (a:Step K μ μ1 H H1) (b:Step K μ1 μ2 H1 H2) (nd:μ2.Nodup):Step K μ μ2 H H2:=by
 obtain ⟨ν,e,n1⟩:=a.pre
 obtain ⟨ν',e',n2⟩:=b.pre
 have nd':(μ++ν++ν').Nodup:=by rw [← e,← e']; exact nd
 refine ⟨⟨ν++ν',by rw [e',e,qB8],fun c hc=>?_⟩,fun c o hc h=>?_,a.tk.trans b.tk⟩
 ·rcases qB3.mp hc with h | h
  ·exact n1 c h
  ·have hn:=n2 c h
   cases q:H c with
   | none=>rfl
   | some o =>
    have:c∉μ:=fun hm=>by
     have:=(qF5.mp nd').2.2 c (qD5 _ hm) c h
     exact this rfl
    rw [a.fr c o this q] at hn
    cases hn
 ·refine b.fr c o (fun hm=>?_) (a.fr c o hc h)
  rw [e] at hm
  rcases qB3.mp hm with h' | h'
  ·exact hc h'
  ·rw [n1 c h'] at h; cases h
theorem OR.up (tk:TF K H H') (pre:∃ ν,μ'=μ++ν) {a:Addr} (e:H' a=H a):∀ {o:O},OR K H μ a o→OR K H' μ' a o
 | .lst xs,⟨vs,h,r⟩=>⟨vs,by rw [e]; exact h,RVs.up tk pre _ _ r⟩
 | .dk kvs,⟨ws,h,r⟩=>⟨ws,by rw [e]; exact h,r.up tk pre⟩
 | .dt kvs,⟨ws,h,r⟩=>⟨ws,by rw [e]; exact h,r.up tk pre⟩
theorem zHu {p:Addr}{o:HO} (h:H p=none):TF K H (upd H p o):=zM7 (zGF h o)
theorem SR.other (sr:SR K μ S H) {p:Addr}{o:HO} (h:H p=none):SR K μ S (upd H p o)∧Step K μ μ H (upd H p o):=by
 have hp:=sr.out h
 refine ⟨⟨sr.len,sr.nd,fun n a o' e1 e2=>?_⟩,⟨⟨[],by simp,by simp⟩,fun b u hb e=>?_,zHu h⟩⟩
 ·have hm:a∈μ:=qB5 e1
  have ne:a≠p:=fun z=>hp (z▸hm)
  exact (sr.obj n a o' e1 e2).up (zHu h) ⟨[],by simp⟩ (zAa ne)
 ·rw [zAa (zAD e h)]; exact e
theorem SR.push (sr:SR K μ S H) {p:Addr}{o:HO}{o':O} (h:H p=none) (ho:OR K (upd H p o) (μ++[p]) p o'):SR K (μ++[p]) (S++[o']) (upd H p o)∧Step K μ (μ++[p]) H (upd H p o):=by
 have hp:=sr.out h
 refine ⟨⟨by simp [sr.len],?_,fun n a u e1 e2=>?_⟩,⟨⟨[p],rfl,fun b hb=>?_⟩,fun b u hb e=>?_,zHu h⟩⟩
 ·rw [qF5]
  refine ⟨sr.nd,by simp,fun a ha b hb=>?_⟩
  simp at hb; subst hb
  exact fun z=>hp (z▸ha)
 ·by_cases hn:n<μ.length
  ·rw [qA7 hn] at e1
   rw [qA7 (by rw [← sr.len]; exact hn)] at e2
   have hm:a∈μ:=qB5 e1
   have ne:a≠p:=fun z=>hp (z▸hm)
   exact (sr.obj n a u e1 e2).up (zHu h) ⟨[p],rfl⟩ (zAa ne)
  ·rw [qA0 (by omega)] at e1
   rw [qA0 (by rw [← sr.len]; omega)] at e2
   have h1:n - μ.length=0:=by
    have:=(qA1.mp e1).1
    simp at this; omega
   rw [h1] at e1
   rw [← sr.len,h1] at e2
   simp at e1 e2
   subst e1 e2
   exact ho
 ·simp at hb; subst hb; exact h
 ·rw [zAa (zAD e h)]; exact e
theorem SR.put (sr:SR K μ S H) {n:Nat}{p:Addr}{o u:HO}{o':O} (hn:μ[n]?=some p) (hp:H p=some u) (nt:∀ xs,u≠.tup xs) (nf:∀ x y,u≠.frz x y) (ho:OR K (upd H p o) μ p o'):SR K μ (S.set n o') (upd H p o)∧Step K μ μ H (upd H p o):=by
 have tk:TF K H (upd H p o):=zDI hp nt nf
 have hmem:p∈μ:=qB5 hn
 refine ⟨⟨by simp [sr.len],sr.nd,fun m a w e1 e2=>?_⟩,⟨⟨[],by simp,by simp⟩,fun b w hb e=>?_,tk⟩⟩
 ·by_cases hm:m=n
  ·subst hm
   rw [hn] at e1; cases e1
   have hl:m<S.length:=by rw [← sr.len]; exact (qA1.mp hn).1
   rw [qD7 hl] at e2
   cases e2
   exact ho
  ·rw [qE8 (fun z=>hm z.symm)] at e2
   have ne:a≠p:=fun z=>by
    subst z
    exact hm ((List.getElem?_inj (qA1.mp e1).1 sr.nd).mp (e1.trans hn.symm))
   exact (sr.obj m a w e1 e2).up tk ⟨[],by simp⟩ (zAa ne)
 ·have ne:b≠p:=fun z=>hb (z▸hmem)
  rw [zAa ne]; exact e
end
open PySem PySem.Spec PyProof.Rows
inductive R (α:Type) where
 | bad | ok (a:α) (S:zA0) | er (c:Str) (S:zA0)
noncomputable abbrev M (α:Type):=zA0→R α
noncomputable def bnd {α β:Type} (m:M α) (f:α→M β):M β:=fun S=>match m S with
 | .bad=>.bad
 | .er c S'=>.er c S'
 | .ok a S'=>f a S'
noncomputable def ret {α:Type} (a:α):M α:=fun S=>.ok a S
noncomputable def bad {α:Type}:M α:=fun _=>.bad
inductive zXw {α β:Type} (m:M α) (f:α→M β) (S:zA0) (b:β) (S2:zA0):Prop
 | mk (a:α) (S1:zA0) (e:m S=.ok a S1) (g:f a S1=.ok b S2)
theorem zA6 {α β:Type}{m:M α}{f:α→M β}{S S2:zA0}{b:β} (h:bnd m f S=.ok b S2):zXw m f S b S2:=by
 unfold bnd at h
 cases e:m S with
 | bad=>rw [e] at h; cases h
 | er c S'=>rw [e] at h; cases h
 | ok a S'=>rw [e] at h; exact ⟨a,S',e,h⟩
theorem zAl {α:Type}{a b:α}{S S':zA0} (h:ret a S=.ok b S'):b=a∧S'=S:=by
 unfold ret at h; cases h; exact ⟨rfl,rfl⟩
noncomputable abbrev C:=Env1→M D
noncomputable abbrev CT:=Env1→M Bool
noncomputable abbrev CA:=Env1→M (List D)
def RE (K:W.Frag) (H:Hp) (μ:List Addr) (ρ:Env1) (σ:St):Prop:=ρ.length=σ.length∧∀ (i:Nat) (d:D),ρ[i]?=some (some d)→∃ v,σ[i]?=some (some v)∧RV K H μ d v
section
variable {K:W.Frag}{H H':Hp}{μ μ':List Addr}{ρ:Env1}{σ:St}
theorem RE.up (h:RE K H μ ρ σ) (st:Step K μ μ' H H'):RE K H' μ' ρ σ:=⟨h.1,fun i d e=>let ⟨v,q,r⟩:=h.2 i d e; ⟨v,q,RV.up st.tk st.ext d v r⟩⟩
theorem RE.set (h:RE K H μ ρ σ) {d:D}{v:V} (r:RV K H μ d v) (i:Nat):RE K H μ (ρ.set i (some d)) (σ.set i (some v)):=by
 refine ⟨by simp [h.1],fun j d' e=>?_⟩
 by_cases hj:i=j
 ·subst hj
  have hl:i<ρ.length:=by
   have:=(qA1.mp e).1
   simpa using this
  rw [qD7 hl] at e
  cases e
  exact ⟨v,by rw [qD7 (by rw [← h.1]; exact hl)],r⟩
 ·rw [qE8 hj] at e ⊢
  exact h.2 j d' e
end
def Yld (K:W.Frag) (μ:List Addr) (H:Hp) (d:D) (S':zA0) (Q:VK):Prop:=∀ v H' μ',SR K μ' S' H'→Step K μ μ' H H'→RV K H' μ' d v→Q v H'
def YldA (K:W.Frag) (μ:List Addr) (H:Hp) (ds:List D) (S':zA0) (Q:List V→Hp→Prop):Prop:=∀ vs H' μ',SR K μ' S' H'→Step K μ μ' H H'→RVs K H' μ' ds vs→Q vs H'
def YldT (K:W.Frag) (μ:List Addr) (H:Hp) (b:Bool) (S':zA0) (Q:Bool→Hp→Prop):Prop:=∀ H' μ',SR K μ' S' H'→Step K μ μ' H H'→Q b H'
inductive tOf (K:W.Frag) (c:C) (σ:St) (H:Hp) (Q:VK):Prop
 | mk (μ:List Addr) (ρ:Env1) (S:zA0) (d:D) (S':zA0) (sr:SR K μ S H) (re:RE K H μ ρ σ) (e:c ρ S=.ok d S') (y:Yld K μ H d S' Q)
inductive tOfA (K:W.Frag) (c:CA) (σ:St) (H:Hp) (Q:List V→Hp→Prop):Prop
 | mk (μ:List Addr) (ρ:Env1) (S:zA0) (d:List D) (S':zA0) (sr:SR K μ S H) (re:RE K H μ ρ σ) (e:c ρ S=.ok d S') (y:YldA K μ H d S' Q)
inductive tOfT (K:W.Frag) (c:CT) (σ:St) (H:Hp) (Q:Bool→Hp→Prop):Prop
 | mk (μ:List Addr) (ρ:Env1) (S:zA0) (d:Bool) (S':zA0) (sr:SR K μ S H) (re:RE K H μ ρ σ) (e:c ρ S=.ok d S') (y:YldT K μ H d S' Q)
theorem Yld.self {K:W.Frag}{μ:List Addr}{H:Hp}{d:D}{S:zA0}{Q:VK} (h:Yld K μ H d S Q) (sr:SR K μ S H) {v:V} (r:RV K H μ d v):Q v H:=h v H μ sr (Step.refl K μ H) r
theorem Yld.shift {K:W.Frag}{μ μ1:List Addr}{H H1:Hp}{d:D}{S:zA0}{Q:VK} (h:Yld K μ H d S Q) (st:Step K μ μ1 H H1):Yld K μ1 H1 d S Q:=fun v H' μ' sr s2 r=>h v H' μ' sr (st.trans s2 sr.nd) r
theorem YldT.shift {K:W.Frag}{μ μ1:List Addr}{H H1:Hp}{d:Bool}{S:zA0}{Q:Bool→Hp→Prop} (h:YldT K μ H d S Q) (st:Step K μ μ1 H H1):YldT K μ1 H1 d S Q:=fun H' μ' sr s2=>h H' μ' sr (st.trans s2 sr.nd)
theorem PE.weak {X:Cx}{e:Expr}{t t':TE} (h:PE X e t) (w:∀ σ H Q,t' σ H Q→t σ H Q):PE X e t':=fun pins s σ H Q I q=>h pins s σ H Q I (w σ H Q q)
theorem PT.weak {X:Cx}{e:Expr}{t t':TT} (h:PT X e t) (w:∀ σ H Q,t' σ H Q→t σ H Q):PT X e t':=fun pins s σ H Q I q=>h pins s σ H Q I (w σ H Q q)
theorem PW.weak {X:Cx}{e:Expr}{t t':TT} (h:PW X e t) (w:∀ σ H Q,t' σ H Q→t σ H Q):PW X e t':=fun wh pins s σ H Q I q=>h wh pins s σ H Q I (w σ H Q q)
theorem PA.weak {X:Cx}{e:List Expr}{t t':TA} (h:PA X e t) (w:∀ σ H Q,t' σ H Q→t σ H Q):PA X e t':=fun pos pins s σ H Q I q=>h pos pins s σ H Q I (w σ H Q q)
theorem PS.weak {X:Cx}{e:Stmt}{t t':TS} (h:PS X e t) (w:∀ D σ H,t' D σ H→t D σ H):PS X e t':=fun pins s σ H D I q=>h pins s σ H D I (w D σ H q)
theorem PSs.weak {X:Cx}{e:List Stmt}{t t':TS} (h:PSs X e t) (w:∀ D σ H,t' D σ H→t D σ H):PSs X e t':=fun pins s σ H D I q=>h pins s σ H D I (w D σ H q)
noncomputable def rAny (X:Cx) (f:Value→Value→Sem Value):R2:=fun v u H Q=>∃ r,OpR X f r∧r v u H Q
theorem zJ1 {X:Cx}{f:Value→Value→Sem Value}:OpR X f (rAny X f):=fun pins s σ H x y v u Q I rx ry ⟨r,ho,q⟩=>ho pins s σ H x y v u Q I rx ry q
noncomputable def uAny (X:Cx) (f:Value→Sem Value):V→Hp→VK→Prop:=fun v H Q=>∃ r,UnR X f r∧r v H Q
theorem zVR {X:Cx}{f:Value→Sem Value}:UnR X f (uAny X f):=fun pins s σ H x v Q I rx ⟨r,ho,q⟩=>ho pins s σ H x v Q I rx q
noncomputable def cAny (X:Cx) (f:Value):List V→Hp→VK→Prop:=fun vs H Q=>∃ r,zAV X f r∧r vs H Q
theorem zH6 {X:Cx}{f:Value}:zAV X f (cAny X f):=fun pins s σ H x v Q I rx ⟨r,ho,q⟩=>ho pins s σ H x v Q I rx q
noncomputable def zN5 (X:Cx):R2:=fun v u H Q=>∃ r,IxR X r∧r v u H Q
theorem zX4 {X:Cx}:IxR X (zN5 X):=fun va sl pins s σ H x y v u Q I rx ry ⟨r,ho,q⟩ hs=>ho va sl pins s σ H x y v u Q I rx ry q hs
noncomputable def zMf (X:Cx):V→Option Int→Option Int→Hp→VK→Prop:=fun v lo hi H Q=>∃ r,SlR X r∧r v lo hi H Q
theorem zW4 {X:Cx}:SlR X (zMf X):=fun pins s σ H x v vl vu lo hi sl Q I rx a b c ⟨r,ho,q⟩=>ho pins s σ H x v vl vu lo hi sl Q I rx a b c q
noncomputable def zDr (X:Cx) (id:String):V→List V→Hp→VK→Prop:=fun v vs H Q=>∃ r,MtR X id r∧r v vs H Q
theorem zU4 {X:Cx}{id:String}:MtR X id (zDr X id):=fun pins s σ H x xs v us Q I rx rs ⟨r,ho,q⟩=>ho pins s σ H x xs v us Q I rx rs q
noncomputable def zMl (X:Cx):TSet:=fun o i v H Q=>∃ r,PSet X r∧r o i v H Q
theorem zT1 {X:Cx}:PSet X (zMl X):=fun pins s σ H o i v ov iv u Q I r1 r2 r3 ⟨r,ho,q⟩=>ho pins s σ H o i v ov iv u Q I r1 r2 r3 q
noncomputable def cVar (i:Nat):C:=fun ρ S=>match ρ[i]? with
 | some (some d)=>.ok d S
 | _=>.bad
noncomputable def cCon (d:D):C:=fun _ S=>.ok d S
noncomputable def cBin (o:D→D→M D) (a b:C):C:=fun ρ=>bnd (a ρ) fun x=>bnd (b ρ) fun y=>o x y
noncomputable def cUn (o:D→M D) (a:C):C:=fun ρ=>bnd (a ρ) o
noncomputable def zA1:List C→CA
 | []=>fun _=>ret []
 | c::cs=>fun ρ=>bnd (c ρ) fun x=>bnd (zA1 cs ρ) fun xs=>ret (x::xs)
noncomputable def cApp (o:List D→M D) (a:CA):C:=fun ρ=>bnd (a ρ) o
noncomputable def cTup (a:CA):C:=cApp (fun xs=>ret (.tup xs)) a
noncomputable def cLst (a:CA):C:=cApp (fun xs S=>.ok (.lst S.length) (S++[.lst xs])) a
noncomputable def cIf (t:CT) (a b:C):C:=fun ρ=>bnd (t ρ) fun k=>if k then a ρ else b ρ
noncomputable def zAk (a:C):CT:=fun ρ=>bnd (a ρ) fun x=>match x with
 | .bl b=>ret b
 | _=>bad
noncomputable def zO7 (a b:C):C:=fun ρ=>bnd (zAk a ρ) fun k=>if k then b ρ else ret (.bl false)
noncomputable def cOrV (a b:C):C:=fun ρ=>bnd (zAk a ρ) fun k=>if k then ret (.bl true) else b ρ
noncomputable def zPH (a:C):C:=fun ρ=>bnd (zAk a ρ) fun k=>ret (.bl (!k))
noncomputable def zIu (a b:CT):CT:=fun ρ=>bnd (a ρ) fun k=>if k then b ρ else ret false
noncomputable def cOrT (a b:CT):CT:=fun ρ=>bnd (a ρ) fun k=>if k then ret true else b ρ
noncomputable def zIt (a:CT):CT:=fun ρ=>bnd (a ρ) fun k=>ret (!k)
noncomputable def dB (x:D):M Bool:=match x with
 | .bl b=>ret b
 | _=>bad
noncomputable def zGu (o o':D→D→M D) (a b c:C):C:=fun ρ=>bnd (a ρ) fun x=>bnd (b ρ) fun y=>bnd (o x y) fun z=>bnd (dB z) fun k=>if k then bnd (c ρ) fun w=>o' y w else ret (.bl false)
section
variable {X:Cx}{a b c d:Expr}{ca cb cc cd:C}{pos:Pos}
theorem zT2 {i:Nat}{x:Str} (h:PE X (.Name x pos) (tVar i)):PE X (.Name x pos) (tOf X.K (cVar i)):=h.weak fun σ H Q ⟨μ,ρ,S,d,S',sr,re,e,y⟩=>by
 unfold cVar at e
 split at e
 ·rename_i d' hd
  cases e
  obtain ⟨v,q,r⟩:=re.2 i _ hd
  exact ⟨v,q,y.self sr r⟩
 ·cases e
theorem zHD {e:Expr}{v:V}{d:D} (h:PE X e (tC v)) (hd:∀ K H μ,RV K H μ d v):PE X e (tOf X.K (cCon d)):=h.weak fun σ H Q ⟨μ,ρ,S,d',S',sr,re,e,y⟩=>by
 unfold cCon at e
 cases e
 exact y.self sr (hd _ _ _)
def OpS (K:W.Frag) (r:R2) (o:D→D→M D):Prop:=∀ x y S d S' H μ v u Q,o x y S=.ok d S'→SR K μ S H→RV K H μ x v→RV K H μ y u→Yld K μ H d S' Q→r v u H Q
theorem zKe {r:R2}{o:D→D→M D} (ho:OpS X.K r o):∀ σ H Q,tOf X.K (cBin o ca cb) σ H Q→tOp r (tOf X.K ca) (tOf X.K cb) σ H Q:=by
 rintro σ H Q ⟨μ,ρ,S,d,S',sr,re,e,y⟩
 obtain ⟨x,S1,e1,e⟩:=zA6 e
 obtain ⟨z,S2,e2,e⟩:=zA6 e
 refine ⟨μ,ρ,S,x,S1,sr,re,e1,fun v H1 μ1 sr1 st1 r1=>⟨μ1,ρ,S1,z,S2,sr1,re.up st1,e2,fun u H2 μ2 sr2 st2 r2=>?_⟩⟩
 exact ho x z S2 d S' H2 μ2 v u Q e sr2 (RV.up st2.tk st2.ext _ _ r1) r2 (y.shift (st1.trans st2 sr2.nd))
theorem zT7 {op:Operator}{o:D→D→M D} (ho:OpS X.K (rAny X (binaryOp op)) o) (ha:PE X a (tOf X.K ca)) (hb:PE X b (tOf X.K cb)):PE X (.BinOp a op b pos) (tOf X.K (cBin o ca cb)):=(zWm zJ1 ha hb).weak (zKe ho)
theorem zT6 {op:CmpOp}{o:D→D→M D} (ho:OpS X.K (rAny X (compareOp op)) o) (ha:PE X a (tOf X.K ca)) (hb:PE X b (tOf X.K cb)) (hm:behindInMarks op b=false):PE X (.Compare a [op] [b] pos) (tOf X.K (cBin o ca cb)):=(zRl zJ1 ha hb hm).weak (zKe ho)
theorem zMH {t:TE}{c:C} (h:∀ σ H Q,tOf X.K c σ H Q→t σ H Q):∀ σ H Q,tOfT X.K (zAk c) σ H Q→zQx t σ H Q:=by
 rintro σ H Q ⟨μ,ρ,S,d,S',sr,re,e,y⟩
 obtain ⟨x,S1,e1,e⟩:=zA6 e
 refine h σ H _ ⟨μ,ρ,S,x,S1,sr,re,e1,fun v H1 μ1 sr1 st1 r1=>?_⟩
 cases x with
 | bl k =>
  obtain ⟨rfl,rfl⟩:=zAl e
  unfold RV at r1
  exact ⟨_,r1,y H1 μ1 sr1 st1⟩
 | _=>cases e
theorem zSN {op:CmpOp}{o:D→D→M D} (ho:OpS X.K (rAny X (compareOp op)) o) (ha:PE X a (tOf X.K ca)) (hb:PE X b (tOf X.K cb)) (hm:behindInMarks op b=false):PT X (.Compare a [op] [b] pos) (tOfT X.K (zAk (cBin o ca cb))):=(zR8 zJ1 ha hb hm).weak (zMH (zKe ho))
theorem zKd {r r':R2}{o o':D→D→M D} (ho:OpS X.K r o) (ho':OpS X.K r' o'):∀ σ H Q,tOf X.K (zGu o o' ca cb cc) σ H Q→zMb r r' (tOf X.K ca) (tOf X.K cb) (tOf X.K cc) σ H Q:=by
 rintro σ H Q ⟨μ,ρ,S,d,S',sr,re,e,y⟩
 obtain ⟨x,S1,e1,f1⟩:=zA6 e
 obtain ⟨z,S2,e2,f2⟩:=zA6 f1
 obtain ⟨t,S3,e3,f3⟩:=zA6 f2
 obtain ⟨k,S4,e4,f4⟩:=zA6 f3
 refine ⟨μ,ρ,S,x,S1,sr,re,e1,fun v H1 μ1 sr1 st1 r1=>⟨μ1,ρ,S1,z,S2,sr1,re.up st1,e2,fun u H2 μ2 sr2 st2 r2=>?_⟩⟩
 have st12:=st1.trans st2 sr2.nd
 refine ho x z S2 t S3 H2 μ2 v u _ e3 sr2 (RV.up st2.tk st2.ext _ _ r1) r2 fun v3 H3 μ3 sr3 st3 r3=>?_
 have st13:=st12.trans st3 sr3.nd
 cases t with
 | bl k' =>
  obtain ⟨rfl,rfl⟩:=zAl e4
  unfold RV at r3
  refine ⟨_,r3,?_⟩
  cases k with
  | true =>
   rw [if_pos rfl] at f4 ⊢
   obtain ⟨w,S5,e5,f5⟩:=zA6 f4
   refine ⟨μ3,ρ,_,w,S5,sr3,re.up st13,e5,fun v5 H5 μ5 sr5 st5 r5=>?_⟩
   exact ho' z w S5 d S' H5 μ5 u v5 Q f5 sr5 (RV.up st5.tk st5.ext _ _ (RV.up st3.tk st3.ext _ _ r2)) r5 (y.shift (st13.trans st5 sr5.nd))
  | false =>
   rw [if_neg qB1] at f4 ⊢
   obtain ⟨rfl,rfl⟩:=zAl f4
   exact y _ H3 μ3 sr3 st13 (by unfold RV; rfl)
 | _=>cases e4
theorem zOz {op op':CmpOp}{o o':D→D→M D} (ho:OpS X.K (rAny X (compareOp op)) o) (ho':OpS X.K (rAny X (compareOp op')) o') (ha:PE X a (tOf X.K ca)) (hb:PE X b (tOf X.K cb)) (hc:PE X c (tOf X.K cc)) (hm:lastMarks [op,op'] [b,c]=false) :
  PE X (.Compare a [op,op'] [b,c] pos) (tOf X.K (zGu o o' ca cb cc)):=(zOW zJ1 zJ1 ha hb hc hm).weak (zKd ho ho')
theorem zOq {op op':CmpOp}{o o':D→D→M D} (ho:OpS X.K (rAny X (compareOp op)) o) (ho':OpS X.K (rAny X (compareOp op')) o') (ha:PE X a (tOf X.K ca)) (hb:PE X b (tOf X.K cb)) (hc:PE X c (tOf X.K cc)) (hm:lastMarks [op,op'] [b,c]=false) :
  PT X (.Compare a [op,op'] [b,c] pos) (tOfT X.K (zAk (zGu o o' ca cb cc))):=(zOI zJ1 zJ1 ha hb hc hm).weak (zMH (zKd ho ho'))
def UnS (K:W.Frag) (r:V→Hp→VK→Prop) (o:D→M D):Prop:=∀ x S d S' H μ v Q,o x S=.ok d S'→SR K μ S H→RV K H μ x v→Yld K μ H d S' Q→r v H Q
theorem zW5 {op:UnaryOp}{o:D→M D} (ho:UnS X.K (uAny X (unaryOp op)) o) (ha:PE X a (tOf X.K ca)):PE X (.UnaryOp op a pos) (tOf X.K (cUn o ca)):=(zWk zVR ha).weak (by
 rintro σ H Q ⟨μ,ρ,S,d,S',sr,re,e,y⟩
 obtain ⟨x,S1,e1,e⟩:=zA6 e
 exact ⟨μ,ρ,S,x,S1,sr,re,e1,fun v H1 μ1 sr1 st1 r1=>ho x S1 d S' H1 μ1 v Q e sr1 r1 (y.shift st1)⟩)
theorem zJ2 {σ:St}{H:Hp}{μ:List Addr}{ρ:Env1}{S S':zA0}{k:Bool} (sr:SR X.K μ S H) (re:RE X.K H μ ρ σ) (e:zAk ca ρ S=.ok k S') {Q:VK} (h:∀ H1 μ1,SR X.K μ1 S' H1→Step X.K μ μ1 H H1→Q (.bl k) H1):tOf X.K ca σ H Q:=by
 obtain ⟨x,S1,e1,e⟩:=zA6 e
 refine ⟨μ,ρ,S,x,S1,sr,re,e1,fun v H1 μ1 sr1 st1 r1=>?_⟩
 cases x with
 | bl k' =>
  obtain ⟨rfl,rfl⟩:=zAl e
  unfold RV at r1
  subst r1
  exact h H1 μ1 sr1 st1
 | _=>cases e
theorem zT8 {rest:List Expr} (ha:PE X a (tOf X.K ca)) (hb:PE X (.BoolOp .And (b::rest) pos) (tOf X.K cb)):PE X (.BoolOp .And (a::b::rest) pos) (tOf X.K (zO7 ca cb)):=(zTB ha hb).weak (by
 rintro σ H Q ⟨μ,ρ,S,d,S',sr,re,e,y⟩
 obtain ⟨k,S1,e1,e⟩:=zA6 e
 refine zJ2 sr re e1 fun H1 μ1 sr1 st1=>⟨k,rfl,?_⟩
 cases k with
 | true=>rw [if_pos rfl] at e ⊢; exact ⟨μ1,ρ,S1,d,S',sr1,re.up st1,e,y.shift st1⟩
 | false=>rw [if_neg qB1] at e ⊢; obtain ⟨rfl,rfl⟩:=zAl e; exact y _ H1 μ1 sr1 st1 (by unfold RV; rfl))
theorem zW6 {rest:List Expr} (ha:PE X a (tOf X.K ca)) (hb:PE X (.BoolOp .Or (b::rest) pos) (tOf X.K cb)):PE X (.BoolOp .Or (a::b::rest) pos) (tOf X.K (cOrV ca cb)):=(zWl ha hb).weak (by
 rintro σ H Q ⟨μ,ρ,S,d,S',sr,re,e,y⟩
 obtain ⟨k,S1,e1,e⟩:=zA6 e
 refine zJ2 sr re e1 fun H1 μ1 sr1 st1=>⟨k,rfl,?_⟩
 cases k with
 | false=>rw [if_neg qB1] at e ⊢; exact ⟨μ1,ρ,S1,d,S',sr1,re.up st1,e,y.shift st1⟩
 | true=>rw [if_pos rfl] at e ⊢; obtain ⟨rfl,rfl⟩:=zAl e; exact y _ H1 μ1 sr1 st1 (by unfold RV; rfl))
theorem zT4 (ha:PE X a (tOf X.K ca)):PE X (.UnaryOp .Not a pos) (tOf X.K (zPH ca)):=(zTw ha).weak (by
 rintro σ H Q ⟨μ,ρ,S,d,S',sr,re,e,y⟩
 obtain ⟨k,S1,e1,e⟩:=zA6 e
 obtain ⟨rfl,rfl⟩:=zAl e
 exact zJ2 sr re e1 fun H1 μ1 sr1 st1=>⟨k,rfl,y _ H1 μ1 sr1 st1 (by unfold RV; rfl)⟩)
theorem zOy {t:Expr}{ct:CT} (ht:PT X t (tOfT X.K ct)) (ha:PE X a (tOf X.K ca)) (hb:PE X b (tOf X.K cb)):PE X (.IfExp t a b pos) (tOf X.K (cIf ct ca cb)):=(zOU ht ha hb).weak (by
 rintro σ H Q ⟨μ,ρ,S,d,S',sr,re,e,y⟩
 obtain ⟨k,S1,e1,e⟩:=zA6 e
 refine ⟨μ,ρ,S,k,S1,sr,re,e1,fun H1 μ1 sr1 st1=>?_⟩
 cases k with
 | true=>rw [if_pos rfl] at e ⊢; exact ⟨μ1,ρ,S1,d,S',sr1,re.up st1,e,y.shift st1⟩
 | false=>rw [if_neg qB1] at e ⊢; exact ⟨μ1,ρ,S1,d,S',sr1,re.up st1,e,y.shift st1⟩)
variable {ta tb:CT}
theorem zSK {rest:List Expr} (ha:PT X a (tOfT X.K ta)) (hb:PW X (.BoolOp .And (b::rest) pos) (tOfT X.K tb)):PW X (.BoolOp .And (a::b::rest) pos) (tOfT X.K (zIu ta tb)):=(zTk ha hb).weak (by
 rintro σ H Q ⟨μ,ρ,S,d,S',sr,re,e,y⟩
 obtain ⟨k,S1,e1,e⟩:=zA6 e
 refine ⟨μ,ρ,S,k,S1,sr,re,e1,fun H1 μ1 sr1 st1=>?_⟩
 cases k with
 | true=>rw [if_pos rfl] at e ⊢; exact ⟨μ1,ρ,S1,d,S',sr1,re.up st1,e,y.shift st1⟩
 | false=>rw [if_neg qB1] at e ⊢; obtain ⟨rfl,rfl⟩:=zAl e; exact y H1 μ1 sr1 st1)
theorem zW1 {rest:List Expr} (ha:PT X a (tOfT X.K ta)) (hb:PW X (.BoolOp .Or (b::rest) pos) (tOfT X.K tb)):PW X (.BoolOp .Or (a::b::rest) pos) (tOfT X.K (cOrT ta tb)):=(zWi ha hb).weak (by
 rintro σ H Q ⟨μ,ρ,S,d,S',sr,re,e,y⟩
 obtain ⟨k,S1,e1,e⟩:=zA6 e
 refine ⟨μ,ρ,S,k,S1,sr,re,e1,fun H1 μ1 sr1 st1=>?_⟩
 cases k with
 | false=>rw [if_neg qB1] at e ⊢; exact ⟨μ1,ρ,S1,d,S',sr1,re.up st1,e,y.shift st1⟩
 | true=>rw [if_pos rfl] at e ⊢; obtain ⟨rfl,rfl⟩:=zAl e; exact y H1 μ1 sr1 st1)
theorem zSM (ha:PT X a (tOfT X.K ta)):PT X (.UnaryOp .Not a pos) (tOfT X.K (zIt ta)):=(zTl ha).weak (by
 rintro σ H Q ⟨μ,ρ,S,d,S',sr,re,e,y⟩
 obtain ⟨k,S1,e1,e⟩:=zA6 e
 obtain ⟨rfl,rfl⟩:=zAl e
 exact ⟨μ,ρ,S,k,_,sr,re,e1,fun H1 μ1 sr1 st1=>y H1 μ1 sr1 st1⟩)
noncomputable def dTru (x:D):M Bool:=fun S=>match x with
 | .non=>.ok false S
 | .bl b=>.ok b S
 | .int i=>.ok (i != 0) S
 | .str y=>if y.length≤sizeLine then .ok ((y.length:Int) != 0) S else .bad
 | .tup xs=>.ok (!xs.isEmpty) S
 | .lst n=>match S[n]? with
  | some (.lst xs)=>.ok (!xs.isEmpty) S
  | _=>.bad
 | .dct n=>match S[n]? with
  | some (.dk kvs)=>.ok (!kvs.isEmpty) S
  | _=>.bad
 | .ty _=>.bad
 | .rol xs=>.ok (!xs.isEmpty) S
noncomputable def cTru (a:C):CT:=fun ρ=>bnd (a ρ) dTru
theorem zKy {K:W.Frag}{H:Hp}{μ:List Addr}{ds:List D}{vs:List V} (h:RVs K H μ ds vs):ds.isEmpty=vs.isEmpty:=by
 cases ds with
 | nil=>unfold RVs at h; subst h; rfl
 | cons d ds=>unfold RVs at h; obtain ⟨v,ws,rfl,_⟩:=h; rfl
theorem SR.get {K:W.Frag}{H:Hp}{μ:List Addr}{S:zA0} (sr:SR K μ S H) {n:Nat}{a:Addr}{o:O} (h:μ[n]?=some a) (ho:S[n]?=some o):OR K H μ a o:=sr.obj n a o h ho
theorem zSa {K:W.Frag}{H:Hp}{μ:List Addr}{S S':zA0}{x:D}{v:V}{k:Bool} (e:dTru x S=.ok k S') (sr:SR K μ S H) (r:RV K H μ x v):S'=S∧TruV K v H k:=by
 unfold dTru at e
 cases x with
 | non=>cases e; unfold RV at r; subst r; exact ⟨rfl,rfl⟩
 | bl b=>cases e; unfold RV at r; subst r; exact ⟨rfl,rfl⟩
 | int i=>cases e; unfold RV at r; subst r; exact ⟨rfl,rfl⟩
 | str y =>
  unfold RV at r; subst r
  dsimp only at e
  split at e
  ·rename_i hl; cases e; exact ⟨rfl,hl,rfl⟩
  ·cases e
 | tup xs =>
  cases e; unfold RV at r; obtain ⟨p,vs,rfl,q,rr⟩:=r
  exact ⟨rfl,.inr (.inl ⟨vs,SqT.of q,by rw [zKy rr]⟩)⟩
 | lst n =>
  unfold RV at r; obtain ⟨a,rfl,hm⟩:=r
  dsimp only at e
  split at e
  ·rename_i xs ho
   cases e
   obtain ⟨vs,hq,rr⟩:=sr.get hm ho
   exact ⟨rfl,.inl ⟨vs,SqL.of hq,by rw [zKy rr]⟩⟩
  ·cases e
 | dct n =>
  unfold RV at r; obtain ⟨a,rfl,hm⟩:=r
  dsimp only at e
  split at e
  ·rename_i kvs ho
   cases e
   obtain ⟨ws,hq,rr⟩:=sr.get hm ho
   refine ⟨rfl,.inr (.inr ⟨ws,hq,?_⟩)⟩
   have:=zKy rr.2
   rw [qS1,qS1] at this
   rw [this]
  ·cases e
 | ty _=>cases e
 | rol xs =>
  cases e; unfold RV at r; obtain ⟨p,vs,rfl,q,rr⟩:=r
  exact ⟨rfl,.inl ⟨vs,q.sq,by rw [zKy rr]⟩⟩
theorem zSL (ha:PE X a (tOf X.K ca)) (he:∀ whole,isTrue a X.env whole=(do let v ← whole; standAt a.pos; holding [v] (truthy v))):PT X a (tOfT X.K (cTru ca)):=(zOH ha he).weak (by
 rintro σ H Q ⟨μ,ρ,S,d,S',sr,re,e,y⟩
 obtain ⟨x,S1,e1,e⟩:=zA6 e
 refine ⟨μ,ρ,S,x,S1,sr,re,e1,fun v H1 μ1 sr1 st1 r1=>?_⟩
 obtain ⟨rfl,tv⟩:=zSa e sr1 r1
 exact ⟨d,tv,y H1 μ1 sr1 st1⟩)
variable {es:List Expr}{cs:List C}
theorem zMn:PA X [] (tOfA X.K (zA1 [])):=zQ2.weak (by
 rintro σ H Q ⟨μ,ρ,S,d,S',sr,re,e,y⟩
 obtain ⟨rfl,rfl⟩:=zAl e
 exact y [] H μ sr (Step.refl _ _ _) RVs.nil)
theorem zGG (ha:PE X a (tOf X.K ca)) (hr:PA X es (tOfA X.K (zA1 cs))) (hs:starEach (a::es) X.env=(false,eval a X.env)::starEach es X.env):PA X (a::es) (tOfA X.K (zA1 (ca::cs))):=(zMC ha hr hs).weak (by
 rintro σ H Q ⟨μ,ρ,S,d,S',sr,re,e,y⟩
 obtain ⟨x,S1,e1,e⟩:=zA6 e
 obtain ⟨xs,S2,e2,e⟩:=zA6 e
 obtain ⟨rfl,rfl⟩:=zAl e
 exact ⟨μ,ρ,S,x,S1,sr,re,e1,fun v H1 μ1 sr1 st1 r1=>⟨μ1,ρ,S1,xs,S',sr1,re.up st1,e2,fun vs H2 μ2 sr2 st2 r2=>y (v::vs) H2 μ2 sr2 (st1.trans st2 sr2.nd) (.cons (RV.up st2.tk st2.ext _ _ r1) r2)⟩⟩)
theorem zFy {ρ:Env1}:∀ {cs:List C}{S S':zA0}{xs:List D},zA1 cs ρ S=.ok xs S'→xs.length=cs.length
 | [],S,S',xs,e=>by obtain ⟨rfl,rfl⟩:=zAl e; rfl
 | c::cs,S,S',xs,e=>by
  obtain ⟨x,S1,e1,e⟩:=zA6 e
  obtain ⟨ys,S2,e2,e⟩:=zA6 e
  obtain ⟨rfl,rfl⟩:=zAl e
  rw [qD0,qD0,zFy e2]
theorem zGO {K:W.Frag}{H:Hp}{μ:List Addr}{S:zA0}{ds:List D}{vs:List V}{p:Addr} (sr:SR K μ S H) (h:H p=none) (r:RVs K H μ ds vs):SR K μ S (upd H p (.tup vs))∧Step K μ μ H (upd H p (.tup vs))∧RV K (upd H p (.tup vs)) μ (.tup ds) (.ref p):=by
 obtain ⟨s1,s2⟩:=sr.other (o:=.tup vs) h
 exact ⟨s1,s2,by unfold RV; exact ⟨p,vs,rfl,zAb,RVs.up s2.tk s2.ext _ _ r⟩⟩
theorem zRw {K:W.Frag}{H:Hp}{μ:List Addr}{S:zA0}{ds:List D}{vs:List V}{p:Addr} (sr:SR K μ S H) (h:H p=none) (r:RVs K H μ ds vs):SR K (μ++[p]) (S++[.lst ds]) (upd H p (.lst vs))∧Step K μ (μ++[p]) H (upd H p (.lst vs))∧RV K (upd H p (.lst vs)) (μ++[p]) (.lst S.length) (.ref p):=by
 obtain ⟨s1,s2⟩:=sr.push (o:=.lst vs) (o':=.lst ds) h ⟨vs,zAb,RVs.up (zHu h) ⟨[p],rfl⟩ _ _ r⟩
 exact ⟨s1,s2,by unfold RV; exact ⟨p,rfl,by rw [← sr.len,qA0 (qB0 _),qK1]; rfl⟩⟩
theorem Yld.newL {K:W.Frag}{H:Hp}{μ:List Addr}{S:zA0}{ds:List D}{vs:List V}{p:Addr}{Q:VK} (y:Yld K μ H (.lst S.length) (S++[.lst ds]) Q) (sr:SR K μ S H) (h:H p=none) (r:RVs K H μ ds vs):Q (.ref p) (upd H p (.lst vs)):=by
 obtain ⟨s1,s2,s3⟩:=zRw sr h r
 exact y _ _ _ s1 s2 s3
theorem Yld.newT {K:W.Frag}{H:Hp}{μ:List Addr}{S:zA0}{ds:List D}{vs:List V}{p:Addr}{Q:VK} (y:Yld K μ H (.tup ds) S Q) (sr:SR K μ S H) (h:H p=none) (r:RVs K H μ ds vs):Q (.ref p) (upd H p (.tup vs)):=by
 obtain ⟨s1,s2,s3⟩:=zGO sr h r
 exact y _ _ _ s1 s2 s3
theorem zT3 {x1} (h:PA X es (tOfA X.K (zA1 cs))) (hl:cs.length≤1000):PE X (.Tuple es x1 pos) (tOf X.K (cTup (zA1 cs))):=(zTt h).weak (by
 rintro σ H Q ⟨μ,ρ,S,d,S',sr,re,e,y⟩
 obtain ⟨xs,S1,e1,e⟩:=zA6 e
 obtain ⟨rfl,rfl⟩:=zAl e
 refine ⟨μ,ρ,S,xs,S',sr,re,e1,fun vs H1 μ1 sr1 st1 r1=>⟨?_,fun p hp=>(y.shift st1).newT sr1 hp r1⟩⟩
 have h1:=zFy e1
 have h2:=r1.len
 exact qG7 (zHx (by omega)))
theorem zT5 (h:PA X es (tOfA X.K (zA1 cs))) (hl:cs.length≤1000):PE X (.List es pos) (tOf X.K (cLst (zA1 cs))):=(zTy h).weak (by
 rintro σ H Q ⟨μ,ρ,S,d,S',sr,re,e,y⟩
 obtain ⟨xs,S1,e1,e⟩:=zA6 e
 cases e
 refine ⟨μ,ρ,S,xs,S1,sr,re,e1,fun vs H1 μ1 sr1 st1 r1=>⟨?_,fun p hp=>(y.shift st1).newL sr1 hp r1⟩⟩
 have h1:=zFy e1
 have h2:=r1.len
 exact qG7 (zHx (by omega)))
theorem zW7 {o:D→D→M D} (ho:OpS X.K (zN5 X) o) (ha:PE X a (tOf X.K ca)) (hb:PE X b (tOf X.K cb)) (hs:zJS b):PE X (.Subscript a b pos) (tOf X.K (cBin o ca cb)):=(zWn zX4 ha hb hs).weak (zKe ho)
noncomputable def CO:=Env1→M (Option Int)
noncomputable def zFv:CO:=fun _=>ret none
noncomputable def dInt (x:D):M Int:=match x with
 | .int i=>ret i
 | _=>bad
noncomputable def zH7 (a:C):CO:=fun ρ=>bnd (a ρ) fun x=>bnd (dInt x) fun i=>ret (some i)
def YldO (K:W.Frag) (μ:List Addr) (H:Hp) (b:Option Int) (S':zA0) (Q:Option Int→Hp→Prop):Prop:=∀ H' μ',SR K μ' S' H'→Step K μ μ' H H'→Q b H'
inductive tOfO (K:W.Frag) (c:CO) (σ:St) (H:Hp) (Q:Option Int→Hp→Prop):Prop
 | mk (μ:List Addr) (ρ:Env1) (S:zA0) (d:Option Int) (S':zA0) (sr:SR K μ S H) (re:RE K H μ ρ σ) (e:c ρ S=.ok d S') (y:YldO K μ H d S' Q)
theorem PO.weak {e:Option Expr}{t t':TO} (h:PO X e t) (w:∀ σ H Q,t' σ H Q→t σ H Q):PO X e t':=fun pins s σ H Q I q=>h pins s σ H Q I (w σ H Q q)
theorem zQH:PO X none (tOfO X.K zFv):=zRg.weak (by
 rintro σ H Q ⟨μ,ρ,S,d,S',sr,re,e,y⟩
 obtain ⟨rfl,rfl⟩:=zAl e
 exact y H μ sr (Step.refl _ _ _))
theorem zQG (ha:PE X a (tOf X.K ca)):PO X (some a) (tOfO X.K (zH7 ca)):=(zRf ha).weak (by
 rintro σ H Q ⟨μ,ρ,S,d,S',sr,re,e,y⟩
 obtain ⟨x,S1,e1,e⟩:=zA6 e
 obtain ⟨i,S2,e2,e⟩:=zA6 e
 obtain ⟨rfl,rfl⟩:=zAl e
 refine ⟨μ,ρ,S,x,S1,sr,re,e1,fun v H1 μ1 sr1 st1 r1=>?_⟩
 cases x with
 | int j =>
  obtain ⟨rfl,rfl⟩:=zAl e2
  unfold RV at r1
  exact ⟨_,r1,y H1 μ1 sr1 st1⟩
 | _=>cases e2)
noncomputable def cSl (o:D→Option Int→Option Int→M D) (a:C) (lo hi:CO):C:=fun ρ=>bnd (a ρ) fun x=>bnd (lo ρ) fun l=>bnd (hi ρ) fun h=>o x l h
def SlS (K:W.Frag) (r:V→Option Int→Option Int→Hp→VK→Prop) (o:D→Option Int→Option Int→M D):Prop:=∀ x l h S d S' H μ v Q,o x l h S=.ok d S'→SR K μ S H→RV K H μ x v→Yld K μ H d S' Q→r v l h H Q
theorem zOw {lo hi:Option Expr}{cl ch:CO}{p2:Pos}{o:D→Option Int→Option Int→M D} (ho:SlS X.K (zMf X) o) (ha:PE X a (tOf X.K ca)) (hl:PO X lo (tOfO X.K cl)) (hh:PO X hi (tOfO X.K ch)):PE X (.Subscript a (.Slice lo hi none p2) pos) (tOf X.K (cSl o ca cl ch)):=(zOT zW4 ha hl hh).weak (by
 rintro σ H Q ⟨μ,ρ,S,d,S',sr,re,e,y⟩
 obtain ⟨x,S1,e1,e⟩:=zA6 e
 obtain ⟨l,S2,e2,e⟩:=zA6 e
 obtain ⟨h,S3,e3,e⟩:=zA6 e
 refine ⟨μ,ρ,S,x,S1,sr,re,e1,fun v H1 μ1 sr1 st1 r1=>⟨μ1,ρ,S1,l,S2,sr1,re.up st1,e2,fun H2 μ2 sr2 st2=>?_⟩⟩
 have st12:=st1.trans st2 sr2.nd
 refine ⟨μ2,ρ,S2,h,S3,sr2,re.up st12,e3,fun H3 μ3 sr3 st3=>?_⟩
 exact ho x l h S3 d S' H3 μ3 v Q e sr3 (RV.up st3.tk st3.ext _ _ (RV.up st2.tk st2.ext _ _ r1)) (y.shift (st12.trans st3 sr3.nd)))
def zDG (K:W.Frag) (r:List V→Hp→VK→Prop) (o:List D→M D):Prop:=∀ xs S d S' H μ vs Q,o xs S=.ok d S'→SR K μ S H→RVs K H μ xs vs→Yld K μ H d S' Q→r vs H Q
variable {ca':CA}
theorem zQ3 {r:List V→Hp→VK→Prop}{o:List D→M D} (ho:zDG X.K r o):∀ σ H Q,tOf X.K (cApp o ca') σ H Q→tCB r (tOfA X.K ca') σ H Q:=by
 rintro σ H Q ⟨μ,ρ,S,d,S',sr,re,e,y⟩
 obtain ⟨xs,S1,e1,e⟩:=zA6 e
 exact ⟨μ,ρ,S,xs,S1,sr,re,e1,fun vs H1 μ1 sr1 st1 r1=>ho xs S1 d S' H1 μ1 vs Q e sr1 r1 (y.shift st1)⟩
noncomputable def spOf (K:W.Frag) (φ:List D→M D) (n:Nat):Sp:=fun vs H Q E=>vs.length=n∧∃ μ ds S d S',SR K μ S H∧RVs K H μ ds vs∧φ ds S=.ok d S'∧Yld K μ H d S' Q
theorem zRt {φ:List D→M D}{n:Nat} (hn:∀ ds S d S',φ ds S=.ok d S'→ds.length=n):∀ σ H Q,tOf X.K (cApp φ ca') σ H Q→zQA (spOf X.K φ n) [] E0 (tOfA X.K ca') σ H Q:=by
 rintro σ H Q ⟨μ,ρ,S,d,S',sr,re,e,y⟩
 obtain ⟨xs,S1,e1,e⟩:=zA6 e
 refine ⟨μ,ρ,S,xs,S1,sr,re,e1,fun vs H1 μ1 sr1 st1 r1=>?_⟩
 rw [qH9]
 exact ⟨by rw [← r1.len]; exact hn _ _ _ _ e,μ1,xs,S1,d,S',sr1,r1,e,y.shift st1⟩
end
open PySem PySem.Spec PyProof.Rows
noncomputable def lim:Nat:=1048576
theorem zGf {n:Nat} (h:n≤lim):n≤sizeLine:=qC5 h (by decide)
theorem zGe {n:Nat} (h:n<lim):n<sizeLine:=qC3 h (by decide)
section
variable {K:W.Frag}{H H' H1:Hp}{μ:List Addr}{S:zA0}
theorem SR.same (sr:SR K μ S H) (sm:Same H H1):SR K μ S H1∧Step K μ μ H H1:=by
 have tk:TF K H H1:=zM7 sm
 refine ⟨⟨sr.len,sr.nd,fun n a o e1 e2=>?_⟩,⟨⟨[],by simp,by simp⟩,fun b o _ h=>sm b o h,tk⟩⟩
 obtain ⟨u,hu⟩:=sr.isS (qB5 e1)
 exact (sr.obj n a o e1 e2).up tk ⟨[],by simp⟩ (by rw [hu]; exact sm _ _ hu)
theorem Yld.oldT {ds:List D}{vs:List V}{p:Addr}{Q:VK} (y:Yld K μ H (.tup ds) S Q) (sr:SR K μ S H) (sm:Same H H1) (h:H1 p=some (.tup vs)) (r:RVs K H μ ds vs):Q (.ref p) H1:=by
 obtain ⟨s1,s2⟩:=sr.same sm
 exact y _ _ _ s1 s2 (by unfold RV; exact ⟨p,vs,rfl,h,RVs.up s2.tk s2.ext _ _ r⟩)
theorem zB2 {i:Int}:RV K H μ (.int i) (.int i):=by unfold RV; rfl
theorem zDk {i:Bool}:RV K H μ (.bl i) (.bl i):=by unfold RV; rfl
theorem zEU:RV K H μ .non .non:=by unfold RV; rfl
theorem zG8 {i:Str}:RV K H μ (.str i) (.str i):=by unfold RV; rfl
theorem SR.lst (sr:SR K μ S H) {n:Nat}{a:Addr}{xs:List D} (h:μ[n]?=some a) (ho:S[n]?=some (.lst xs)):∃ vs,H a=some (.lst vs)∧RVs K H μ xs vs:=sr.obj n a _ h ho
noncomputable def zA4 (S:zA0) (n:Nat):Option (List D):=match S[n]? with
 | some (.lst xs)=>some xs
 | _=>none
theorem SR.sq (sr:SR K μ S H) {n:Nat}{a:Addr}{xs:List D} (h:μ[n]?=some a) (ho:zA4 S n=some xs):∃ vs,SqL K H a vs∧RVs K H μ xs vs:=by
 unfold zA4 at ho
 split at ho
 ·rename_i ys e; cases ho
  obtain ⟨vs,q,r⟩:=sr.get h e
  exact ⟨vs,SqL.of q,r⟩
 ·cases ho
noncomputable def zHC (S:zA0):D→Option (List D)
 | .tup xs=>some xs
 | .lst n=>zA4 S n
 | .rol xs=>some xs
 | _=>none
theorem SR.seq (sr:SR K μ S H) {x:D}{v:V}{xs:List D} (r:RV K H μ x v) (ho:zHC S x=some xs):∃ a vs,v=.ref a∧(SqL K H a vs∨SqT K H a vs)∧RVs K H μ xs vs:=by
 unfold zHC at ho
 split at ho
 ·cases ho
  unfold RV at r; obtain ⟨p,vs,rfl,q,rr⟩:=r
  exact ⟨p,vs,rfl,.inr (SqT.of q),rr⟩
 ·unfold RV at r; obtain ⟨a,rfl,hm⟩:=r
  obtain ⟨vs,q,rr⟩:=sr.sq hm ho
  exact ⟨a,vs,rfl,.inl q,rr⟩
 ·cases ho
  unfold RV at r; obtain ⟨p,vs,rfl,q,rr⟩:=r
  exact ⟨p,vs,rfl,.inl q.sq,rr⟩
 ·cases ho
theorem RVs.cons_inv {d:D}{ds:List D}{vs:List V} (h:RVs K H μ (d::ds) vs):∃ v ws,vs=v::ws∧RV K H μ d v∧RVs K H μ ds ws:=by unfold RVs at h; exact h
theorem RVs.nil_inv {vs:List V} (h:RVs K H μ [] vs):vs=[]:=by unfold RVs at h; exact h
end
noncomputable def oInt (g:Int→Int→Int):D→D→M D
 | .int i,.int j=>ret (.int (g i j))
 | _,_=>bad
noncomputable def oAdd:D→D→M D
 | .int i,.int j=>ret (.int (i+j))
 | .tup xs,.tup ys=>fun S=>if xs.length+ys.length≤lim then .ok (.tup (xs++ys)) S else .bad
 | .lst n,.lst m=>fun S=>match S[n]?,S[m]? with
  | some (.lst xs),some (.lst ys)=>if xs.length+ys.length≤lim then .ok (.lst S.length) (S++[.lst (xs++ys)]) else .bad
  | _,_=>.bad
 | .str x,.str y=>fun S=>if x.length+y.length≤lim then .ok (.str (x++y)) S else .bad
 | _,_=>bad
noncomputable def zF1 (i j:Int):Bool:=(decide (-18446744073709551616<i)&&decide (i<18446744073709551616))||(decide (-18446744073709551616<j)&&decide (j<18446744073709551616))
noncomputable def oMul:D→D→M D
 | .int i,.int j=>fun S=>if zF1 i j then .ok (.int (i*j)) S else .bad
 | _,_=>bad
noncomputable def oMod:D→D→M D
 | .int i,.int j=>fun S=>if 0<j then .ok (.int (i % j)) S else .bad
 | _,_=>bad
noncomputable def oDiv:D→D→M D
 | .int i,.int j=>fun S=>if 0<j∧j<1073741824 then .ok (.int (i / j)) S else .bad
 | _,_=>bad
noncomputable def oPow:D→D→M D
 | .int i,.int j=>fun S=>if 0≤j∧j≤1000000∧i.natAbs<18446744073709551616 then .ok (.int (i ^ j.toNat)) S else .bad
 | _,_=>bad
noncomputable def oShl:D→D→M D
 | .int i,.int j=>fun S=>if 0≤j∧j≤1000000∧i.natAbs<18446744073709551616 then .ok (.int (i*2 ^ j.toNat)) S else .bad
 | _,_=>bad
noncomputable def oShr:D→D→M D
 | .int i,.int j=>fun S=>if 0≤j then .ok (.int (i / 2 ^ j.toNat)) S else .bad
 | _,_=>bad
noncomputable def oNeg:D→M D
 | .int i=>ret (.int (-i))
 | _=>bad
section
variable {X:Cx}
theorem zKc {op:Operator}{g:Int→Int→Int} (h:OpR X (binaryOp op) (rI0 fun i j=>.int (g i j))):OpS X.K (rAny X (binaryOp op)) (oInt g):=by
 intro x y S d S' H μ v u Q e sr rx ry h'
 unfold oInt at e
 split at e
 ·obtain ⟨rfl,rfl⟩:=zAl e
  unfold RV at rx ry; subst rx ry
  exact ⟨_,h,_,_,rfl,rfl,h'.self sr zB2⟩
 ·cases e
theorem zTD:OpS X.K (rAny X (binaryOp .Sub)) (oInt fun i j=>i - j):=zKc zTN
theorem zTK:OpS X.K (rAny X (binaryOp .BitAnd)) (oInt Builtin.bitAnd):=zKc zTY
theorem zWs:OpS X.K (rAny X (binaryOp .BitOr)) (oInt Builtin.bitOr):=zKc zWC
theorem zTC:OpS X.K (rAny X (binaryOp .BitXor)) (oInt Builtin.bitXor):=zKc zTM
theorem zTL:OpS X.K (rAny X (binaryOp .Add)) oAdd:=by
 intro x y S d S' H μ v u Q e sr rx ry h
 unfold oAdd at e
 split at e
 ·obtain ⟨rfl,rfl⟩:=zAl e
  unfold RV at rx ry; subst rx ry
  exact ⟨_,zTZ,_,_,rfl,rfl,h.self sr zB2⟩
 ·try dsimp only at e
  split at e
  ·rename_i hl; cases e
   unfold RV at rx ry
   obtain ⟨p,vs,rfl,q1,r1⟩:=rx
   obtain ⟨p2,ws,rfl,q2,r2⟩:=ry
   exact ⟨_,zP3,p,p2,vs,ws,rfl,rfl,q1,q2,by rw [← r1.len,← r2.len]; exact zGf hl,fun p3 H1 sm sq=>h.oldT sr sm sq (r1.append r2)⟩
  ·cases e
 ·try dsimp only at e
  unfold RV at rx ry
  obtain ⟨p,rfl,m1⟩:=rx
  obtain ⟨p2,rfl,m2⟩:=ry
  split at e
  ·rename_i xs ys o1 o2
   split at e
   ·rename_i hl; cases e
    obtain ⟨vs,q1,r1⟩:=sr.lst m1 o1
    obtain ⟨ws,q2,r2⟩:=sr.lst m2 o2
    exact ⟨_,zTX,p,p2,vs,ws,rfl,rfl,q1,q2,by rw [← r1.len,← r2.len]; exact zGf hl,fun p3 hp=>h.newL sr hp (r1.append r2)⟩
   ·cases e
  ·cases e
 ·try dsimp only at e
  split at e
  ·rename_i hl; cases e
   unfold RV at rx ry; subst rx ry
   exact ⟨_,zL2,_,_,rfl,rfl,zGf hl,h.self sr zG8⟩
  ·cases e
 ·cases e
theorem zRy {i j:Int} (h:zF1 i j=true):CMul i j:=by
 unfold zF1 at h
 simp only [qF8,qC9,decide_eq_true_eq] at h
 exact h
theorem zTH:OpS X.K (rAny X (binaryOp .Mult)) oMul:=by
 intro x y S d S' H μ v u Q e sr rx ry h
 unfold oMul at e
 split at e
 ·try dsimp only at e
  split at e
  ·rename_i hl; cases e
   unfold RV at rx ry; subst rx ry
   exact ⟨_,zTS,_,_,rfl,rfl,zRy hl,h.self sr zB2⟩
  ·cases e
 ·cases e
theorem zTI:OpS X.K (rAny X (binaryOp .Mod)) oMod:=by
 intro x y S d S' H μ v u Q e sr rx ry h
 unfold oMod at e
 split at e
 ·try dsimp only at e
  split at e
  ·rename_i hl; cases e
   unfold RV at rx ry; subst rx ry
   exact ⟨_,zTT,_,_,rfl,rfl,hl,h.self sr zB2⟩
  ·cases e
 ·cases e
theorem zTJ:OpS X.K (rAny X (binaryOp .FloorDiv)) oDiv:=by
 intro x y S d S' H μ v u Q e sr rx ry h
 unfold oDiv at e
 split at e
 ·try dsimp only at e
  split at e
  ·rename_i hl; cases e
   unfold RV at rx ry; subst rx ry
   exact ⟨_,zRp,_,_,rfl,rfl,hl,h.self sr zB2⟩
  ·cases e
 ·cases e
theorem zTG:OpS X.K (rAny X (binaryOp .Pow)) oPow:=by
 intro x y S d S' H μ v u Q e sr rx ry h
 unfold oPow at e
 split at e
 ·try dsimp only at e
  split at e
  ·rename_i hl; cases e
   unfold RV at rx ry; subst rx ry
   exact ⟨_,zTQ,_,_,rfl,rfl,hl,h.self sr zB2⟩
  ·cases e
 ·cases e
theorem zTF:OpS X.K (rAny X (binaryOp .LShift)) oShl:=by
 intro x y S d S' H μ v u Q e sr rx ry h
 unfold oShl at e
 split at e
 ·try dsimp only at e
  split at e
  ·rename_i hl; cases e
   unfold RV at rx ry; subst rx ry
   exact ⟨_,zTP,_,_,rfl,rfl,hl,h.self sr zB2⟩
  ·cases e
 ·cases e
theorem zTE:OpS X.K (rAny X (binaryOp .RShift)) oShr:=by
 intro x y S d S' H μ v u Q e sr rx ry h
 unfold oShr at e
 split at e
 ·try dsimp only at e
  split at e
  ·rename_i hl; cases e
   unfold RV at rx ry; subst rx ry
   exact ⟨_,zTO,_,_,rfl,rfl,hl,h.self sr zB2⟩
  ·cases e
 ·cases e
theorem zSz:UnS X.K (uAny X (unaryOp .USub)) oNeg:=by
 intro x S d S' H μ v Q e sr rx h
 unfold oNeg at e
 split at e
 ·obtain ⟨rfl,rfl⟩:=zAl e
  unfold RV at rx; subst rx
  exact ⟨_,zSA,_,rfl,h.self sr zB2⟩
 ·cases e
noncomputable def oCmp (g:Int→Int→Bool):D→D→M D
 | .int i,.int j=>ret (.bl (g i j))
 | _,_=>bad
theorem zMD {op:CmpOp}{g:Int→Int→Bool} (h:OpR X (compareOp op) (rI0 fun i j=>.bl (g i j))):OpS X.K (rAny X (compareOp op)) (oCmp g):=by
 intro x y S d S' H μ v u Q e sr rx ry h'
 unfold oCmp at e
 split at e
 ·obtain ⟨rfl,rfl⟩:=zAl e
  unfold RV at rx ry; subst rx ry
  exact ⟨_,h,_,_,rfl,rfl,h'.self sr zDk⟩
 ·cases e
theorem zWv:OpS X.K (rAny X (compareOp .LtE)) (oCmp fun i j=>decide (i≤j)):=zMD zWF
theorem zWz:OpS X.K (rAny X (compareOp .Gt)) (oCmp fun i j=>decide (j<i)):=zMD zWG
theorem zWA:OpS X.K (rAny X (compareOp .GtE)) (oCmp fun i j=>decide (j≤i)):=zMD zWH
noncomputable def zCx:List D→Option (List Int)
 | []=>some []
 | .int i::r=>(zCx r).map (i::·)
 | _::_=>none
theorem zD3 {K:W.Frag}{H:Hp}{μ:List Addr}:∀ {ds:List D}{ns:List Int}{vs:List V},zCx ds=some ns→RVs K H μ ds vs→vs=ns.map V.int
 | [],ns,vs,e,r=>by cases e; rw [r.nil_inv]; rfl
 | .int i::ds,ns,vs,e,r=>by
  obtain ⟨v,ws,rfl,r1,r2⟩:=r.cons_inv
  unfold zCx at e
  cases q:zCx ds with
  | none=>rw [q] at e; cases e
  | some ms =>
   rw [q] at e; cases e
   unfold RV at r1; subst r1
   rw [zD3 q r2]; rfl
 | .non::ds,ns,vs,e,r=>by cases e
 | .bl _::ds,ns,vs,e,r=>by cases e
 | .str _::ds,ns,vs,e,r=>by cases e
 | .ty _::ds,ns,vs,e,r=>by cases e
 | .tup _::ds,ns,vs,e,r=>by cases e
 | .lst _::ds,ns,vs,e,r=>by cases e
 | .dct _::ds,ns,vs,e,r=>by cases e
 | .rol _::ds,ns,vs,e,r=>by cases e
noncomputable def oLt:D→D→M D
 | .int i,.int j=>ret (.bl (decide (i<j)))
 | _,_=>bad
theorem zWu (hu:X.A.units<cLine):OpS X.K (rAny X (compareOp .Lt)) oLt:=by
 intro x y S d S' H μ v u Q e sr rx ry h
 unfold oLt at e
 split at e
 ·obtain ⟨rfl,rfl⟩:=zAl e
  unfold RV at rx ry; subst rx ry
  exact ⟨_,zWE,_,_,rfl,rfl,h.self sr zDk⟩
 ·cases e
noncomputable def snap:Nat→zA0→D→Option PyData
 | 0,_,_=>none
 | n+1,S,d=>match d with
  | .non=>some .none
  | .bl b=>some (.bool b)
  | .int i=>some (.int i)
  | .str x=>if PyData.strOk x then some (.str x) else none
  | .tup xs=>(xs.mapM (snap n S)).map .tuple
  | .lst k=>match zA4 S k with
   | some xs=>(xs.mapM (snap n S)).map .list
   | none=>none
  | _=>none
theorem zQI {K:W.Frag}{H:Hp}{μ:List Addr}{S:zA0}{n:Nat} (ih:∀ d v p,snap n S d=some p→RV K H μ d v→Rp K H (fun _=>True) v p∧p.canLay0=true∧p.depth≤n):∀ (xs:List D) (vs:List V) (ps:List PyData),xs.mapM (snap n S)=some ps→RVs K H μ xs vs→RpL K H (fun _=>True) vs ps∧PyData.canLayAll0 ps=true∧PyData.depthAll ps≤n
 | [],vs,ps,e,r=>by
  simp at e; subst e
  rw [r.nil_inv]
  exact ⟨.nil,rfl,qE1 _⟩
 | d::ds,vs,ps,e,r=>by
  obtain ⟨v,ws,rfl,r1,r2⟩:=r.cons_inv
  rw [qF6] at e
  cases q:snap n S d with
  | none=>rw [q] at e; cases e
  | some p =>
   cases q2:ds.mapM (snap n S) with
   | none=>rw [q,q2] at e; cases e
   | some ps' =>
    rw [q,q2] at e
    cases e
    obtain ⟨a1,a2,a3⟩:=ih d v p q r1
    obtain ⟨b1,b2,b3⟩:=zQI ih ds ws ps' q2 r2
    refine ⟨.cons a1 b1,?_,?_⟩
    ·show (PyData.canLay0 p&&PyData.canLayAll0 ps')=true
     rw [a2,b2]; rfl
    ·show max p.depth (PyData.depthAll ps')≤n
     omega
theorem zCQ {K:W.Frag}{H:Hp}{μ:List Addr}{S:zA0} (sr:SR K μ S H):∀ (n:Nat) (d:D) (v:V) (p:PyData),snap n S d=some p→RV K H μ d v→Rp K H (fun _=>True) v p∧p.canLay0=true∧p.depth≤n
 | 0,d,v,p,e,r=>by cases e
 | n+1,d,v,p,e,r=>by
  unfold snap at e
  cases d with
  | non=>cases e; unfold RV at r; subst r; exact ⟨.non,rfl,qE1 _⟩
  | bl b=>cases e; unfold RV at r; subst r; exact ⟨.bl b,rfl,qE1 _⟩
  | int i=>cases e; unfold RV at r; subst r; exact ⟨.int i,rfl,qE1 _⟩
  | str x =>
   dsimp only at e
   split at e
   ·rename_i hs; cases e; unfold RV at r; subst r; exact ⟨.str x,hs,qE1 _⟩
   ·cases e
  | tup xs =>
   dsimp only at e
   cases q:xs.mapM (snap n S) with
   | none=>rw [q] at e; cases e
   | some ps =>
    rw [q] at e; cases e
    unfold RV at r; obtain ⟨a,vs,rfl,hq,rr⟩:=r
    obtain ⟨b1,b2,b3⟩:=zQI (fun d v p e r=>zCQ sr n d v p e r) xs vs ps q rr
    exact ⟨.tup (SqT.of hq) b1,b2,qS2 b3⟩
  | lst k =>
   dsimp only at e
   split at e
   ·rename_i xs hx
    cases q:xs.mapM (snap n S) with
    | none=>rw [q] at e; cases e
    | some ps =>
     rw [q] at e; cases e
     unfold RV at r; obtain ⟨a,rfl,hm⟩:=r
     obtain ⟨vs,hq,rr⟩:=sr.sq hm hx
     obtain ⟨b1,b2,b3⟩:=zQI (fun d v p e r=>zCQ sr n d v p e r) xs vs ps q rr
     exact ⟨.lst True.intro hq b1,b2,qS2 b3⟩
   ·cases e
  | dct k=>cases e
  | ty k=>cases e
  | rol k=>cases e
noncomputable def oEq:D→D→M D:=fun x y S=>match x,y with
 | .str a,.str b=>.ok (.bl (decide (a=b))) S
 | _,_=>match snap 40 S x,snap 40 S y with
  | some p,some q=>.ok (.bl (PyData.eqv p q)) S
  | _,_=>.bad
noncomputable def oNe:D→D→M D:=fun x y S=>match x,y with
 | .str a,.str b=>.ok (.bl (!decide (a=b))) S
 | _,_=>match snap 40 S x,snap 40 S y with
  | some p,some q=>.ok (.bl (!PyData.eqv p q)) S
  | _,_=>.bad
theorem zWB (hu:X.A.units+64<cLine):OpS X.K (rAny X (compareOp .Eq)) oEq:=by
 intro x y S d S' H μ v u Q e sr rx ry h
 unfold oEq at e
 split at e
 ·rename_i a b
  cases e
  unfold RV at rx ry; subst rx ry
  refine ⟨_,zWI,rfl,?_⟩
  have z:decide (V.str a=V.str b)=decide (a=b):=by simp
  rw [z]
  exact h.self sr zDk
 ·split at e
  ·rename_i p q e1 e2
   cases e
   obtain ⟨a1,a2,a3⟩:=zCQ sr 40 x v p e1 rx
   obtain ⟨b1,b2,b3⟩:=zCQ sr 40 y u q e2 ry
   exact ⟨_,zTV hu,_,_,p,q,a1,b1,⟨a2,by omega⟩,⟨b2,by omega⟩,h.self sr zDk⟩
  ·cases e
theorem zWt (hu:X.A.units+64<cLine):OpS X.K (rAny X (compareOp .NotEq)) oNe:=by
 intro x y S d S' H μ v u Q e sr rx ry h
 unfold oNe at e
 split at e
 ·rename_i a b
  cases e
  unfold RV at rx ry; subst rx ry
  refine ⟨_,zWD,rfl,?_⟩
  have z:decide (V.str a=V.str b)=decide (a=b):=by simp
  rw [z]
  exact h.self sr zDk
 ·split at e
  ·rename_i p q e1 e2
   cases e
   obtain ⟨a1,a2,a3⟩:=zCQ sr 40 x v p e1 rx
   obtain ⟨b1,b2,b3⟩:=zCQ sr 40 y u q e2 ry
   exact ⟨_,zTR hu,_,_,p,q,a1,b1,⟨a2,by omega⟩,⟨b2,by omega⟩,h.self sr zDk⟩
  ·cases e
noncomputable def D.isNon:D→Bool
 | .non=>true
 | _=>false
theorem zN8 {K:W.Frag}{H:Hp}{μ:List Addr}{x:D}{v:V} (r:RV K H μ x v):decide (v=.non)=x.isNon:=by
 cases x with
 | non=>unfold RV at r; subst r; rfl
 | bl _=>unfold RV at r; subst r; rfl
 | int _=>unfold RV at r; subst r; rfl
 | str _=>unfold RV at r; subst r; rfl
 | ty _=>unfold RV at r; subst r; rfl
 | tup _=>unfold RV at r; obtain ⟨_,_,rfl,_⟩:=r; rfl
 | lst _=>unfold RV at r; obtain ⟨_,rfl,_⟩:=r; rfl
 | dct _=>unfold RV at r; obtain ⟨_,rfl,_⟩:=r; rfl
 | rol _=>unfold RV at r; obtain ⟨_,_,rfl,_⟩:=r; rfl
noncomputable def oIs:D→D→M D
 | x,.non=>ret (.bl x.isNon)
 | .bl a,.bl b=>ret (.bl (a == b))
 | _,_=>bad
noncomputable def zGb:D→D→M D
 | x,.non=>ret (.bl (!x.isNon))
 | .bl a,.bl b=>ret (.bl (a != b))
 | _,_=>bad
theorem zWx:OpS X.K (rAny X (compareOp .Is)) oIs:=by
 intro x y S d S' H μ v u Q e sr rx ry h
 unfold oIs at e
 split at e
 ·obtain ⟨rfl,rfl⟩:=zAl e
  unfold RV at ry
  exact ⟨_,zTU,ry,by rw [zN8 rx]; exact h.self sr zDk⟩
 ·obtain ⟨rfl,rfl⟩:=zAl e
  unfold RV at rx ry; subst rx ry
  exact ⟨_,zP2,_,_,rfl,rfl,h.self sr zDk⟩
 ·cases e
theorem zP1:OpS X.K (rAny X (compareOp .IsNot)) zGb:=by
 intro x y S d S' H μ v u Q e sr rx ry h
 unfold zGb at e
 split at e
 ·obtain ⟨rfl,rfl⟩:=zAl e
  unfold RV at ry
  exact ⟨_,zRo,ry,by rw [zN8 rx]; exact h.self sr zDk⟩
 ·obtain ⟨rfl,rfl⟩:=zAl e
  unfold RV at rx ry; subst rx ry
  exact ⟨_,zJ0,_,_,rfl,rfl,h.self sr zDk⟩
 ·cases e
noncomputable def flat:D→Option V
 | .non=>some .non
 | .bl b=>some (.bl b)
 | .int i=>some (.int i)
 | .str x=>some (.str x)
 | _=>none
theorem zQc {K:W.Frag}{H:Hp}{μ:List Addr}{x:D}{v w:V} (e:flat x=some w) (r:RV K H μ x v):v=w:=by
 cases x with
 | non=>cases e; unfold RV at r; exact r
 | bl _=>cases e; unfold RV at r; exact r
 | int _=>cases e; unfold RV at r; exact r
 | str _=>cases e; unfold RV at r; exact r
 | _=>cases e
theorem zNn {K:W.Frag}{H:Hp}{μ:List Addr}:∀ {ds:List D}{vs ws:List V},ds.mapM flat=some ws→RVs K H μ ds vs→vs=ws
 | [],vs,ws,e,r=>by simp at e; subst e; exact r.nil_inv
 | d::ds,vs,ws,e,r=>by
  obtain ⟨v,us,rfl,r1,r2⟩:=r.cons_inv
  rw [qF6] at e
  cases q:flat d with
  | none=>rw [q] at e; cases e
  | some w =>
   cases q2:ds.mapM flat with
   | none=>rw [q,q2] at e; cases e
   | some ws' =>
    rw [q,q2] at e; cases e
    rw [zQc q r1,zNn q2 r2]
noncomputable def zCN:D→Option Key
 | .int i=>some (.inl i)
 | .str x=>some (.inr x)
 | _=>none
theorem zFa {K:W.Frag}{H:Hp}{μ:List Addr}{x:D}{v:V}{k:Key} (e:zCN x=some k) (r:RV K H μ x v):v=kV k:=by
 cases x with
 | int _=>cases e; unfold RV at r; exact r
 | str _=>cases e; unfold RV at r; exact r
 | _=>cases e
noncomputable def valD {κ:Type} [DecidableEq κ] (kvs:List (κ × D)) (k:κ):Option D:=(kvs.find? fun kv=>decide (kv.1=k)).map (·.2)
noncomputable def putD {κ:Type} [DecidableEq κ] (kvs:List (κ × D)) (k:κ) (v:D):List (κ × D) :=
 if (kvs.any fun kv=>decide (kv.1=k))=true then kvs.map (fun kv=>if kv.1=k then (kv.1,v) else kv) else kvs++[(k,v)]
section
variable {κ:Type} [DecidableEq κ] {K:W.Frag}{H:Hp}{μ:List Addr}
theorem RKs.cons_inv {p:κ × D}{kvs:List (κ × D)}{ws:List (κ × V)} (h:RKs K H μ (p::kvs) ws):∃ q us,ws=q::us∧p.1=q.1∧RV K H μ p.2 q.2∧RKs K H μ kvs us:=by
 obtain ⟨h1,h2⟩:=h
 rw [qC1] at h1 h2
 obtain ⟨v,vs,e,r1,r2⟩:=h2.cons_inv
 cases ws with
 | nil=>simp at h1
 | cons q us =>
  rw [qC1] at h1 e
  cases e
  rw [List.cons.injEq] at h1
  exact ⟨q,us,rfl,h1.1,r1,h1.2,r2⟩
theorem RKs.val {k:κ}:∀ {kvs:List (κ × D)}{ws:List (κ × V)},RKs K H μ kvs ws→(∀ d,valD kvs k=some d→∃ v,valV ws k=some v∧RV K H μ d v)∧(valD kvs k=none→valV ws k=none)
 | [],ws,h=>by
  have:ws=[]:=by have:=h.1; cases ws with | nil=>rfl | cons a b=>simp at this
  subst this
  exact ⟨fun d e=>(by cases e),fun _=>rfl⟩
 | p::kvs,ws,h=>by
  obtain ⟨q,us,rfl,e1,r1,r2⟩:=h.cons_inv
  obtain ⟨i1,i2⟩:=RKs.val (k:=k) r2
  by_cases hk:p.1=k
  ·have e2:valD (p::kvs) k=some p.2:=by simp [valD,qE5,hk]
   rw [e2,zEG (e1▸hk)]
   exact ⟨fun d e=>by cases e; exact ⟨_,rfl,r1⟩,fun e=>by cases e⟩
  ·have e2:valD (p::kvs) k=valD kvs k:=by simp [valD,qE5,hk]
   rw [e2,zEH (e1▸hk)]
   exact ⟨i1,i2⟩
theorem RKs.nil:RKs K H μ ([]:List (κ × D)) []:=⟨rfl,RVs.nil⟩
theorem RKs.cons {k:κ}{d:D}{v:V}{kvs:List (κ × D)}{ws:List (κ × V)} (r:RV K H μ d v) (h:RKs K H μ kvs ws):RKs K H μ ((k,d)::kvs) ((k,v)::ws):=⟨by rw [qC1,qC1,h.1],by rw [qC1,qC1]; exact .cons r h.2⟩
theorem RKs.any {k:κ}:∀ {kvs:List (κ × D)}{ws:List (κ × V)},RKs K H μ kvs ws→(kvs.any fun kv=>decide (kv.1=k))=(ws.any fun kv=>decide (kv.1=k))
 | [],ws,h=>by
  have:ws=[]:=by have:=h.1; cases ws with | nil=>rfl | cons a b=>simp at this
  subst this; rfl
 | p::kvs,ws,h=>by
  obtain ⟨q,us,rfl,e1,r1,r2⟩:=h.cons_inv
  rw [qG8,qG8,RKs.any r2,e1]
theorem RKs.mapSet {k:κ}{d:D}{v:V} (rv:RV K H μ d v):∀ {kvs:List (κ × D)}{ws:List (κ × V)},RKs K H μ kvs ws→RKs K H μ (kvs.map (fun kv=>if kv.1=k then (kv.1,d) else kv)) (ws.map (fun kv=>if kv.1=k then (kv.1,v) else kv))
 | [],ws,h=>by
  have:ws=[]:=by have:=h.1; cases ws with | nil=>rfl | cons a b=>simp at this
  subst this; exact .nil
 | p::kvs,ws,h=>by
  obtain ⟨q,us,rfl,e1,r1,r2⟩:=h.cons_inv
  rw [qC1,qC1]
  obtain ⟨p1,p2⟩:=p
  obtain ⟨q1,q2⟩:=q
  dsimp only at e1 r1 ⊢
  subst e1
  by_cases hk:p1=k
  ·rw [if_pos hk,if_pos hk]; exact .cons rv (RKs.mapSet rv r2)
  ·rw [if_neg hk,if_neg hk]; exact .cons r1 (RKs.mapSet rv r2)
theorem RKs.append {as:List (κ × D)}{bs:List (κ × V)}{cs:List (κ × D)}{ds:List (κ × V)} (h:RKs K H μ as bs) (g:RKs K H μ cs ds):RKs K H μ (as++cs) (bs++ds):=⟨by rw [qE0,qE0,h.1,g.1],by rw [qE0,qE0]; exact h.2.append g.2⟩
theorem RKs.put {k:κ}{d:D}{v:V} (rv:RV K H μ d v) {kvs:List (κ × D)}{ws:List (κ × V)} (h:RKs K H μ kvs ws):RKs K H μ (putD kvs k d) (putK ws k v):=by
 unfold putD putK
 rw [h.any (k:=k)]
 by_cases hc:(ws.any fun kv=>decide (kv.1=k))=true
 ·rw [if_pos hc,if_pos hc]; exact h.mapSet rv
 ·rw [if_neg hc,if_neg hc]; exact h.append (.cons rv .nil)
theorem RKs.len {kvs:List (κ × D)}{ws:List (κ × V)} (h:RKs K H μ kvs ws):kvs.length=ws.length:=by
 have:=congrArg qK5 h.1
 simpa using this
end
noncomputable def dictAt (S:zA0) (n:Nat) (x:D):Option (Option D):=match S[n]? with
 | some (.dk kvs)=>(zCN x).map fun k=>valD kvs k
 | some (.dt kvs)=>match x with
  | .tup ks=>(ks.mapM zCN).map fun k=>valD kvs k
  | _=>none
 | _=>none
theorem zGg {K:W.Frag}{H:Hp}{μ:List Addr}:∀ {ds:List D}{ks:List Key}{vs:List V},ds.mapM zCN=some ks→RVs K H μ ds vs→vs=ks.map kV
 | [],ks,vs,e,r=>by simp at e; subst e; exact r.nil_inv
 | d::ds,ks,vs,e,r=>by
  obtain ⟨u,us,rfl,r1,r2⟩:=r.cons_inv
  rw [qF6] at e
  cases q:zCN d with
  | none=>rw [q] at e; cases e
  | some k =>
   cases q2:ds.mapM zCN with
   | none=>rw [q,q2] at e; cases e
   | some ks' =>
    rw [q,q2] at e; cases e
    rw [qC1,zFa q r1,zGg q2 r2]
theorem zIa {K:W.Frag}{H:Hp}{μ:List Addr}{S:zA0}{n:Nat}{x:D}{v:V}{a:Addr}{r:Option D} (sr:SR K μ S H) (e:dictAt S n x=some r) (hm:μ[n]?=some a) (rx:RV K H μ x v):∃ o,DGet H a v o∧(∀ d,r=some d→∃ w,o=some w∧RV K H μ d w)∧(r=none→o=none):=by
 unfold dictAt at e
 split at e
 ·rename_i kvs ho
  cases q:zCN x with
  | none=>rw [q] at e; cases e
  | some k =>
   rw [q] at e; cases e
   obtain ⟨ws,hw,rr⟩:=sr.get hm ho
   have:=zFa q rx
   subst this
   exact ⟨valV ws k,DGet.k hw,(rr.val (k:=k)).1,(rr.val (k:=k)).2⟩
 ·rename_i kvs ho
  split at e
  ·rename_i ks
   cases q:ks.mapM zCN with
   | none=>rw [q] at e; cases e
   | some k =>
    rw [q] at e; cases e
    obtain ⟨ws,hw,rr⟩:=sr.get hm ho
    unfold RV at rx
    obtain ⟨p,us,rfl,hp,ru⟩:=rx
    have:=zGg q ru
    subst this
    exact ⟨valV ws k,DGet.t hw hp,(rr.val (k:=k)).1,(rr.val (k:=k)).2⟩
  ·cases e
 ·cases e
noncomputable def oIn (neg:Bool):D→D→M D:=fun x y S=>match y with
 | .dct n=>match dictAt S n x with
  | some o=>.ok (.bl (if neg then !o.isSome else o.isSome)) S
  | none=>.bad
 | _=>match zHC S y,flat x with
  | some ys,some v=>match ys.mapM flat with
   | some vs=>.ok (.bl (if neg then !inV v vs else inV v vs)) S
   | none=>.bad
  | _,_=>.bad
theorem zGn {x:D}{v:V} (h:flat x=some v):zFS v=true:=by
 cases x <;> first | (cases h; rfl) | cases h
theorem zFm:∀ {ds:List D}{vs:List V},ds.mapM flat=some vs→vs.all zFS=true
 | [],vs,e=>by simp at e; subst e; rfl
 | d::ds,vs,e=>by
  rw [qF6] at e
  cases q:flat d with
  | none=>rw [q] at e; cases e
  | some w =>
   cases q2:ds.mapM flat with
   | none=>rw [q,q2] at e; cases e
   | some ws' =>
    rw [q,q2] at e; cases e
    rw [qJ4,zGn q,zFm q2]; rfl
theorem zTW (hu:X.A.units+1<cLine):OpR X (compareOp .In) (fun y x H Q=>∃ a o,x=.ref a∧DGet H a y o∧Q (.bl o.isSome) H):=by
 intro pins s σ H y x v u Q I ry rx h
 obtain ⟨a,o,rfl,g,q⟩:=h
 obtain rfl:u=Value.ref a:=rx
 exact d_in hu I g ry fun s3 I3=>⟨.bl o.isSome,H,I3,rfl,q⟩
theorem zMG (hu:X.A.units+1<cLine):OpR X (compareOp .NotIn) (fun y x H Q=>∃ a o,x=.ref a∧DGet H a y o∧Q (.bl (!o.isSome)) H):=by
 intro pins s σ H y x v u Q I ry rx h
 obtain ⟨a,o,rfl,g,q⟩:=h
 obtain rfl:u=Value.ref a:=rx
 exact zS9 hu I g ry fun s3 I3=>⟨.bl (!o.isSome),H,I3,rfl,q⟩
theorem zGa {neg:Bool}{op:CmpOp} (h1:OpR X (compareOp op) (rIn X.K neg)) (h2:OpR X (compareOp op) (fun y x H Q=>∃ a o,x=.ref a∧DGet H a y o∧Q (.bl (if neg then !o.isSome else o.isSome)) H))
  : OpS X.K (rAny X (compareOp op)) (oIn neg):=by
 intro x y S d S' H μ v u Q e sr rx ry h
 unfold oIn at e
 split at e
 ·rename_i n
  split at e
  ·rename_i o ho
   cases e
   unfold RV at ry
   obtain ⟨a,rfl,hm⟩:=ry
   obtain ⟨o',g,g1,g2⟩:=zIa sr ho hm rx
   have e2:o'.isSome=o.isSome:=by
    cases o with
    | none=>simp [g2 rfl]
    | some d=>obtain ⟨w,rfl,_⟩:=g1 d rfl; rfl
   exact ⟨_,h2,a,o',rfl,g,by rw [e2]; exact h.self sr zDk⟩
  ·cases e
 ·split at e
  ·rename_i ys w e1 e2
   split at e
   ·rename_i ws e3
    cases e
    obtain ⟨a,vs,rfl,hq,rr⟩:=sr.seq ry e1
    have z1:=zQc e2 rx
    have z2:=zNn e3 rr
    subst z1 z2
    exact ⟨_,h1,a,vs,rfl,hq,zGn e2,zFm e3,h.self sr zDk⟩
   ·cases e
  ·cases e
theorem zWy (hu:X.A.units+64<cLine):OpS X.K (rAny X (compareOp .In)) (oIn false):=zGa zMF (zTW (by omega))
theorem zP0 (hu:X.A.units+64<cLine):OpS X.K (rAny X (compareOp .NotIn)) (oIn true):=zGa zHN (zMG (by omega))
end
open PySem PySem.Spec PyProof.Rows
section
variable {X:Cx}
theorem zRW (hu:X.A.units+1<cLine):IxR X (fun x y H Q=>∃ a v,x=.ref a∧DGet H a y (some v)∧Q v H):=by
 intro value slice pins s σ H x y v u Q I rx ry h hs
 obtain ⟨a,z,rfl,g,q⟩:=h
 obtain rfl:v=Value.ref a:=rx
 have hT:=zJt I g
 have h₂:wpAny (model X.prog X.w) X.A (getItem (.ref a) u) (EP X pins σ Q) X.xe s:=zNF hu I g ry fun w' s3 I3 rw'=>⟨z,H,I3,rw',q⟩
 unfold subscriptTail
 refine wpAny_bind ?_
 rw [getitemInPython_of_ne hT.not_modules]
 refine wpAny_bind (wpAny_specialOf hT PySem.F.slot_dict_getitem.lookup ?_)
 have fin:wpAny (model X.prog X.w) X.A (subscripted slice false (.ref a) u) (fun r s₃=>wpAny (model X.prog X.w) X.A (letTemporaryGo value (.ref a) r >>= fun _=>pure r) (EP X pins σ Q) X.xe s₃) X.xe s:=by
  rw [hs]
  exact wpAny_operating (wpAny_mono h₂ (fun r s₃ h₃=>wpAny_bind (wpAny_letTemporaryGo (wpAny_pure h₃))) fun _ _ x=>x)
 exact wpAny_pure (wpAny_bind fin)
noncomputable def oIx:D→D→M D:=fun x i S=>match x with
 | .dct n=>match dictAt S n i with
  | some (some d)=>.ok d S
  | _=>.bad
 | _=>match zHC S x,i with
  | some xs,.int j=>match atI xs j with
   | some d=>.ok d S
   | none=>.bad
  | _,_=>.bad
theorem RVs.at {K:W.Frag}{H:Hp}{μ:List Addr}{ds:List D}{vs:List V}{i:Int}{d:D} (r:RVs K H μ ds vs) (e:atI ds i=some d):∃ v,atI vs i=some v∧RV K H μ d v:=by
 unfold atI at e ⊢
 rw [← r.len]
 cases q:ixN ds.length i with
 | none=>rw [q] at e; cases e
 | some j =>
  rw [q] at e
  obtain ⟨v,e1,e2⟩:=r.get (i:=j) (d:=d) e
  exact ⟨v,e1,e2⟩
theorem zWw (hu:X.A.units+1<cLine):OpS X.K (zN5 X) oIx:=by
 intro x y S d S' H μ v u Q e sr rx ry h
 unfold oIx at e
 split at e
 ·rename_i n
  split at e
  ·rename_i d' ho
   cases e
   unfold RV at rx
   obtain ⟨a,rfl,hm⟩:=rx
   obtain ⟨o,g,g1,_⟩:=zIa sr ho hm ry
   obtain ⟨w,rfl,rw'⟩:=g1 _ rfl
   exact ⟨_,zRW hu,a,w,rfl,g,h.self sr rw'⟩
  ·cases e
 ·split at e
  ·rename_i xs j e1
   split at e
   ·rename_i d' e2
    cases e
    obtain ⟨a,vs,rfl,hq,rr⟩:=sr.seq rx e1
    obtain ⟨w,e3,rw'⟩:=rr.at e2
    unfold RV at ry
    subst ry
    rcases hq with hq | hq
    ·exact ⟨_,zRV,a,vs,j,w,rfl,rfl,hq,e3,h.self sr rw'⟩
    ·exact ⟨_,zUp,a,vs,j,w,rfl,rfl,hq,e3,h.self sr rw'⟩
   ·cases e
  ·cases e
noncomputable def cutD (xs:List D) (lo hi:Option Int):List D:=(xs.drop (HT.sIx xs.length 0 lo)).take (HT.sIx xs.length xs.length hi - HT.sIx xs.length 0 lo)
noncomputable def oSl:D→Option Int→Option Int→M D:=fun x lo hi S=>match x with
 | .tup xs=>.ok (.tup (cutD xs lo hi)) S
 | .lst n=>match zA4 S n with
  | some xs=>.ok (.lst S.length) (S++[.lst (cutD xs lo hi)])
  | none=>.bad
 | _=>.bad
theorem RVs.cut {K:W.Frag}{H:Hp}{μ:List Addr}{ds:List D}{vs:List V} (r:RVs K H μ ds vs) (lo hi:Option Int):RVs K H μ (cutD ds lo hi) (cutV vs lo hi):=by
 unfold cutD cutV
 rw [r.len]
 exact (r.drop _).take _
theorem zW2:SlS X.K (zMf X) oSl:=by
 intro x lo hi S d S' H μ v Q e sr rx h
 unfold oSl at e
 split at e
 ·cases e
  unfold RV at rx
  obtain ⟨p,vs,rfl,q,rr⟩:=rx
  exact ⟨_,zQJ,p,vs,rfl,q,fun p2 H1 sm sq=>h.oldT sr sm sq (rr.cut lo hi)⟩
 ·split at e
  ·rename_i xs e1
   cases e
   unfold RV at rx
   obtain ⟨a,rfl,hm⟩:=rx
   obtain ⟨vs,q,rr⟩:=sr.sq hm e1
   exact ⟨_,zQK,a,vs,rfl,q,fun p hp=>h.newL sr hp (rr.cut lo hi)⟩
  ·cases e
 ·cases e
theorem RVs.reverse {K:W.Frag}{H:Hp}{μ:List Addr}:∀ {ds:List D}{vs:List V},RVs K H μ ds vs→RVs K H μ ds.reverse vs.reverse
 | [],vs,r=>by rw [r.nil_inv]; exact .nil
 | d::ds,vs,r=>by
  obtain ⟨v,ws,rfl,r1,r2⟩:=r.cons_inv
  rw [qL0,qL0]
  exact r2.reverse.append (.cons r1 .nil)
noncomputable def fLen:List D→M D:=fun xs S=>match xs with
 | [.str x]=>if x.length≤lim then .ok (.int x.length) S else .bad
 | [.dct n]=>.bad
 | [x]=>match zHC S x with
  | some ys=>.ok (.int ys.length) S
  | none=>.bad
 | _=>.bad
theorem RVs.one {K:W.Frag}{H:Hp}{μ:List Addr}{d:D}{vs:List V} (h:RVs K H μ [d] vs):∃ v,vs=[v]∧RV K H μ d v:=by
 obtain ⟨v,ws,rfl,r1,r2⟩:=h.cons_inv
 rw [r2.nil_inv]
 exact ⟨v,rfl,r1⟩
theorem RVs.two {K:W.Frag}{H:Hp}{μ:List Addr}{d e:D}{vs:List V} (h:RVs K H μ [d,e] vs):∃ v u,vs=[v,u]∧RV K H μ d v∧RV K H μ e u:=by
 obtain ⟨v,ws,rfl,r1,r2⟩:=h.cons_inv
 obtain ⟨u,rfl,r3⟩:=r2.one
 exact ⟨v,u,rfl,r1,r3⟩
noncomputable def zJs:List D→M D:=fun xs S=>match xs with
 | [.int i]=>if i.natAbs<1000000000000000000 then .ok (.str (toString i)) S else .bad
 | [.tup ys]=>match snap 40 S (.tup ys) with
  | some p=>if p.showable=true∧p.hasDict=false∧p.shown.length≤sizeLine then .ok (.str p.shown) S else .bad
  | none=>.bad
 | [.lst k]=>match snap 40 S (.lst k) with
  | some p=>if p.showable=true∧p.hasDict=false∧p.shown.length≤sizeLine then .ok (.str p.shown) S else .bad
  | none=>.bad
 | [.non]=>.ok (.str "None") S
 | _=>.bad
theorem zSb (hg:X.A.guards=some []) (hu:X.A.units+64<cLine):zDG X.K (cAny X (.builtin "repr")) zJs:=by
 intro xs S d S' H μ vs Q e sr rx h
 unfold zJs at e
 split at e
 ·rename_i i
  split at e
  ·rename_i hl
   cases e
   obtain ⟨v,rfl,r⟩:=rx.one
   unfold RV at r; subst r
   refine ⟨_,zLE,i,rfl,?_,h.self sr zG8⟩
   by_cases h0:i.natAbs=0
   ·rw [h0]; decide
   ·exact (Nat.log2_lt h0).mpr (qO4 hl (by decide))
  ·cases e
 ·rename_i ys
  split at e
  ·rename_i p hp
   split at e
   ·rename_i hc
    cases e
    obtain ⟨v,rfl,r⟩:=rx.one
    obtain ⟨a1,a2,a3⟩:=zCQ sr 40 _ v p hp r
    unfold RV at r; obtain ⟨b,ws,rfl,_⟩:=r
    exact ⟨_,zGt hg hu,b,_,p,rfl,a1,hc.1,hc.2.1,by omega,hc.2.2,h.self sr zG8⟩
   ·cases e
  ·cases e
 ·rename_i k
  split at e
  ·rename_i p hp
   split at e
   ·rename_i hc
    cases e
    obtain ⟨v,rfl,r⟩:=rx.one
    obtain ⟨a1,a2,a3⟩:=zCQ sr 40 _ v p hp r
    unfold RV at r; obtain ⟨b,rfl,_⟩:=r
    exact ⟨_,zGt hg hu,b,_,p,rfl,a1,hc.1,hc.2.1,by omega,hc.2.2,h.self sr zG8⟩
   ·cases e
  ·cases e
 ·cases e
  obtain ⟨v,rfl,r⟩:=rx.one
  unfold RV at r; subst r
  exact ⟨_,zLD,rfl,h.self sr zG8⟩
 ·cases e
theorem zUS:zDG X.K (cAny X (.builtin "len")) fLen:=by
 intro xs S d S' H μ vs Q e sr rx h
 unfold fLen at e
 split at e
 ·split at e
  ·rename_i hl; cases e
   obtain ⟨v,rfl,r⟩:=rx.one
   unfold RV at r; subst r
   exact ⟨_,zIp,_,rfl,zGf hl,h.self sr zB2⟩
  ·cases e
 ·cases e
 ·split at e
  ·rename_i ys e1
   cases e
   obtain ⟨v,rfl,r⟩:=rx.one
   obtain ⟨a,vs,rfl,hq,rr⟩:=sr.seq r e1
   exact ⟨_,zIq,a,vs,rfl,hq,by rw [← rr.len]; exact h.self sr zB2⟩
  ·cases e
 ·cases e
noncomputable def fMin:List D→M D:=fun xs S=>match xs with
 | [.int i,.int j]=>.ok (.int (if j<i then j else i)) S
 | _=>.bad
noncomputable def fMax:List D→M D:=fun xs S=>match xs with
 | [.int i,.int j]=>.ok (.int (if j>i then j else i)) S
 | _=>.bad
theorem zUQ (hc:X.calm=true):zDG X.K (cAny X (.builtin "min")) fMin:=by
 intro xs S d S' H μ vs Q e sr rx h
 unfold fMin at e
 split at e
 ·cases e
  obtain ⟨v,u,rfl,r1,r2⟩:=rx.two
  unfold RV at r1 r2; subst r1 r2
  exact ⟨_,zNV hc,_,_,rfl,h.self sr zB2⟩
 ·cases e
theorem zUR (hc:X.calm=true):zDG X.K (cAny X (.builtin "max")) fMax:=by
 intro xs S d S' H μ vs Q e sr rx h
 unfold fMax at e
 split at e
 ·cases e
  obtain ⟨v,u,rfl,r1,r2⟩:=rx.two
  unfold RV at r1 r2; subst r1 r2
  exact ⟨_,zNW hc,_,_,rfl,h.self sr zB2⟩
 ·cases e
noncomputable def zNt:List D→M D:=fun xs S=>match xs with
 | [x]=>match zHC S x with
  | some ys=>.ok (.lst S.length) (S++[.lst ys])
  | none=>.bad
 | _=>.bad
theorem zSc:zDG X.K (cAny X (.type "list")) zNt:=by
 intro xs S d S' H μ vs Q e sr rx h
 unfold zNt at e
 split at e
 ·split at e
  ·rename_i ys e1
   cases e
   obtain ⟨v,rfl,r⟩:=rx.one
   obtain ⟨a,vs,rfl,hq,rr⟩:=sr.seq r e1
   exact ⟨_,zIo,a,vs,rfl,hq,fun l hl=>h.newL sr hl rr⟩
  ·cases e
 ·cases e
noncomputable def zBa:List D→M D:=fun xs S=>match xs with
 | [.tup ys]=>.ok (.tup ys) S
 | [.lst n]=>match zA4 S n with
  | some ys=>.ok (.tup ys) S
  | none=>.bad
 | _=>.bad
theorem zPE:zDG X.K (cAny X (.type "tuple")) zBa:=by
 intro xs S d S' H μ vs Q e sr rx h
 unfold zBa at e
 split at e
 ·cases e
  obtain ⟨v,rfl,r⟩:=rx.one
  have r':=r
  unfold RV at r'; obtain ⟨p,ws,rfl,q,rr⟩:=r'
  exact ⟨_,zE2,p,ws,rfl,.inr ⟨SqT.of q,h.self sr r⟩⟩
 ·split at e
  ·rename_i ys e1
   cases e
   obtain ⟨v,rfl,r⟩:=rx.one
   unfold RV at r; obtain ⟨a,rfl,hm⟩:=r
   obtain ⟨ws,q,rr⟩:=sr.sq hm e1
   exact ⟨_,zE2,a,ws,rfl,.inl ⟨q,fun l hl=>h.newT sr hl rr⟩⟩
  ·cases e
 ·cases e
noncomputable def fInt:List D→M D:=fun xs S=>match xs with
 | [.int i]=>.ok (.int i) S
 | [.bl b]=>.ok (.int (if b then 1 else 0)) S
 | _=>.bad
theorem zUT:zDG X.K (cAny X (.type "int")) fInt:=by
 intro xs S d S' H μ vs Q e sr rx h
 unfold fInt at e
 split at e
 ·cases e
  obtain ⟨v,rfl,r⟩:=rx.one
  unfold RV at r; subst r
  exact ⟨_,zIs,.inl ⟨_,rfl,h.self sr zB2⟩⟩
 ·cases e
  obtain ⟨v,rfl,r⟩:=rx.one
  unfold RV at r; subst r
  exact ⟨_,zIs,.inr ⟨_,rfl,h.self sr zB2⟩⟩
 ·cases e
noncomputable def zS8 (S:zA0) (n:Nat):Option String:=match S[n]? with
 | some (.dk _)=>some "dict"
 | _=>none
noncomputable def zUk (S:zA0):D→Option String
 | .non=>some "NoneType"
 | .bl _=>some "bool"
 | .int _=>some "int"
 | .str _=>some "str"
 | .tup _=>some "tuple"
 | .lst n=>if (zA4 S n).isSome then some "list" else none
 | .dct n=>zS8 S n
 | _=>none
noncomputable def zBA:List D→M D:=fun xs S=>match xs with
 | [x,.ty T]=>match zUk S x with
  | some t=>if T∈["bool","int","tuple","list","str","dict"] then .ok (.bl (kOf t T)) S else .bad
  | none=>.bad
 | _=>.bad
theorem zRS {K:W.Frag}{H:Hp}{μ:List Addr}{S:zA0}{x:D}{v:V}{t:String} (sr:SR K μ S H) (e:zUk S x=some t) (r:RV K H μ x v):Ty2 K H v t∧t∈["NoneType","bool","int","str","tuple","list","dict"]:=by
 cases x with
 | non=>cases e; unfold RV at r; subst r; exact ⟨.non,by decide⟩
 | bl b=>cases e; unfold RV at r; subst r; exact ⟨.bl b,by decide⟩
 | int i=>cases e; unfold RV at r; subst r; exact ⟨.int i,by decide⟩
 | str i=>cases e; unfold RV at r; subst r; exact ⟨.str i,by decide⟩
 | tup xs=>cases e; unfold RV at r; obtain ⟨p,vs,rfl,q,_⟩:=r; exact ⟨.tup (SqT.of q),by decide⟩
 | lst n =>
  have e:(if (zA4 S n).isSome then some "list" else none)=some t:=e
  split at e
  ·rename_i hs
   cases e
   obtain ⟨xs,hx⟩:=qI3.mp hs
   unfold RV at r; obtain ⟨a,rfl,hm⟩:=r
   obtain ⟨vs,q,_⟩:=sr.sq hm hx
   exact ⟨.lst q,by decide⟩
  ·cases e
 | dct n =>
  have e:zS8 S n=some t:=e
  unfold zS8 at e
  split at e
  ·rename_i kvs ho
   cases e
   unfold RV at r; obtain ⟨a,rfl,hm⟩:=r
   obtain ⟨ws,hw,_⟩:=sr.get hm ho
   exact ⟨.dk hw,by decide⟩
  ·cases e
 | ty n=>cases e
 | rol n=>cases e
theorem zSd:zDG X.K (cAny X (.builtin "isinstance")) zBA:=by
 intro xs S d S' H μ vs Q e sr rx h
 unfold zBA at e
 split at e
 ·rename_i x T
  split at e
  ·rename_i t e1
   split at e
   ·rename_i hT
    cases e
    obtain ⟨v,u,rfl,r1,r2⟩:=rx.two
    unfold RV at r2; subst r2
    obtain ⟨k1,k2⟩:=zRS sr e1 r1
    exact ⟨_,zIr,v,t,T,_,rfl,k1,zPg X.K t k2 T hT,h.self sr zDk⟩
   ·cases e
  ·cases e
 ·cases e
noncomputable def zD4:List D→Option (List Bool)
 | []=>some []
 | .bl b::r=>(zD4 r).map (b::·)
 | _::_=>none
theorem zGw {K:W.Frag}{H:Hp}{μ:List Addr}:∀ {ds:List D}{ns:List Bool}{vs:List V},zD4 ds=some ns→RVs K H μ ds vs→vs=ns.map V.bl
 | [],ns,vs,e,r=>by cases e; rw [r.nil_inv]; rfl
 | .bl i::ds,ns,vs,e,r=>by
  obtain ⟨v,ws,rfl,r1,r2⟩:=r.cons_inv
  unfold zD4 at e
  cases q:zD4 ds with
  | none=>rw [q] at e; cases e
  | some ms =>
   rw [q] at e; cases e
   unfold RV at r1; subst r1
   rw [zGw q r2]; rfl
 | .non::ds,ns,vs,e,r=>by cases e
 | .int _::ds,ns,vs,e,r=>by cases e
 | .str _::ds,ns,vs,e,r=>by cases e
 | .ty _::ds,ns,vs,e,r=>by cases e
 | .tup _::ds,ns,vs,e,r=>by cases e
 | .lst _::ds,ns,vs,e,r=>by cases e
 | .dct _::ds,ns,vs,e,r=>by cases e
 | .rol _::ds,ns,vs,e,r=>by cases e
noncomputable def zCL (g:List Bool→Bool):List D→M D:=fun xs S=>match xs with
 | [.tup ys]=>match zCx ys with
  | some ns=>.ok (.bl (g (ns.map (· != 0)))) S
  | none=>.bad
 | [.lst n]=>match (zA4 S n).bind zD4 with
  | some bs=>.ok (.bl (g bs)) S
  | none=>.bad
 | _=>.bad
theorem zKC {id:String}{g:List Bool→Bool} (hr:zAV X (.builtin id) (fun vs H Q=>∃ (p:Addr) (bs:List Bool),vs=[.ref p]∧SqL X.K H p (bs.map V.bl)∧Q (.bl (g bs)) H)) (hr2:zAV X (.builtin id) (fun vs H Q=>∃ (p:Addr) (ns:List Int),vs=[.ref p]∧SqT X.K H p (ns.map V.int)∧Q (.bl (g (ns.map (· != 0)))) H)):zDG X.K (cAny X (.builtin id)) (zCL g):=by
 intro xs S d S' H μ vs Q e sr rx h
 unfold zCL at e
 split at e
 ·split at e
  ·rename_i ns e1
   cases e
   obtain ⟨v,rfl,r⟩:=rx.one
   unfold RV at r; obtain ⟨a,ws,rfl,q,rr⟩:=r
   have z:=zD3 e1 rr
   subst z
   exact ⟨_,hr2,a,ns,rfl,SqT.of q,h.self sr zDk⟩
  ·cases e
 ·split at e
  ·rename_i bs e1
   cases e
   obtain ⟨ys,e2,e3⟩:=qA3.mp e1
   obtain ⟨v,rfl,r⟩:=rx.one
   unfold RV at r; obtain ⟨a,rfl,hm⟩:=r
   obtain ⟨ws,q,rr⟩:=sr.sq hm e2
   have z:=zGw e3 rr
   subst z
   exact ⟨_,hr,a,bs,rfl,q,h.self sr zDk⟩
  ·cases e
 ·cases e
theorem zAV.imp {f:Value}{r r':List V→Hp→VK→Prop} (h:zAV X f r) (w:∀ vs H Q,r' vs H Q→r vs H Q):zAV X f r':=fun pins s σ H xs us Q I rv q=>h pins s σ H xs us Q I rv (w _ _ _ q)
theorem zUV (hc:X.calm=true):zDG X.K (cAny X (.builtin "all")) (zCL fun bs=>bs.all id):=zKC (zO0 hc) ((zNZ hc).imp fun vs H Q ⟨p,ns,h1,h2,h3⟩=>⟨p,ns,h1,h2,by rw [qK9] at h3; exact h3⟩)
theorem zUU (hc:X.calm=true):zDG X.K (cAny X (.builtin "any")) (zCL fun bs=>bs.any id):=zKC (zNY hc) ((zNX hc).imp fun vs H Q ⟨p,ns,h1,h2,h3⟩=>⟨p,ns,h1,h2,by rw [qR2] at h3; exact h3⟩)
noncomputable def insI (a:Int):List Int→List Int
 | []=>[a]
 | b::r=>if a≤b then a::b::r else b::insI a r
noncomputable def zD1:List Int→List Int
 | []=>[]
 | a::r=>insI a (zD1 r)
theorem zFh (a:Int):∀ l,(insI a l).Perm (a::l)
 | []=>.refl _
 | b::r=>by
  unfold insI
  split
  ·exact .refl _
  ·exact ((zFh a r).cons b).trans (.swap _ _ _)
theorem zDf:∀ l,(zD1 l).Perm l
 | []=>.refl _
 | a::r=>(zFh a _).trans ((zDf r).cons a)
theorem zFg (a:Int):∀ l:List Int,l.Pairwise (·≤·)→(insI a l).Pairwise (·≤·)
 | [],_=>by simp [insI]
 | b::r,h=>by
  have h':=qG0.mp h
  unfold insI
  split
  ·rename_i hab
   refine qG0.mpr ⟨fun c hc=>?_,h⟩
   rcases qB9.mp hc with rfl | hc
   ·exact hab
   ·exact qO5 hab (h'.1 c hc)
  ·rename_i hab
   refine qG0.mpr ⟨fun c hc=>?_,zFg a r h'.2⟩
   rcases qB9.mp ((zFh a r).mem_iff.mp hc) with rfl | hc
   ·omega
   ·exact h'.1 c hc
theorem zEx:∀ l:List Int,(zD1 l).Pairwise (·≤·)
 | []=>.nil
 | a::r=>zFg a _ (zEx r)
theorem zGU {l m:List Int} (h:m.Perm l) (s:m.Pairwise (·≤·)):m=zD1 l :=
 (h.trans (zDf l).symm).eq_of_pairwise (fun a b _ _ h1 h2=>Int.le_antisymm h1 h2) s (zEx l)
noncomputable def zS0:List (Key × D)→Option (List Int)
 | []=>some []
 | (.inl n,_)::r=>(zS0 r).map (n::·)
 | _::_=>none
theorem zHT:∀ {kvs:List (Key × D)}{ns:List Int},zS0 kvs=some ns→kvs.map (·.1)=ns.map Sum.inl
 | [],ns,e=>by cases e; rfl
 | (.inl n,d)::r,ns,e=>by
  obtain ⟨ms,e1,e2⟩:=qA4.mp e
  subst e2
  simp [zHT e1]
 | (.inr x,d)::r,ns,e=>by cases e
noncomputable def zIR:List D→Option (List (List Int))
 | []=>some []
 | .tup xs::r=>match zCx xs,zIR r with
  | some ns,some nss=>some (ns::nss)
  | _,_=>none
 | _=>none
noncomputable def tD (ns:List Int):D:=.tup (ns.map .int)
noncomputable def insT (a:List Int):List (List Int)→List (List Int)
 | []=>[a]
 | b::r=>if HT.lexLt b a=true then b::insT a r else a::b::r
noncomputable def zDH:List (List Int)→List (List Int)
 | []=>[]
 | a::r=>insT a (zDH r)
abbrev LexP (l:List (List Int)):Prop:=l.Pairwise fun x y=>HT.lexLt y x=false
theorem zFf (a:List Int):∀ l,(insT a l).Perm (a::l)
 | []=>.refl _
 | b::r=>by
  unfold insT
  split
  ·exact ((zFf a r).cons b).trans (.swap _ _ _)
  ·exact .refl _
theorem zB1:∀ l,(zDH l).Perm l
 | []=>.refl _
 | a::r=>(zFf a _).trans ((zB1 r).cons a)
theorem zFe (a:List Int):∀ l,LexP l→LexP (insT a l)
 | [],_=>by simp [insT,LexP]
 | b::r,h=>by
  have h':=qG0.mp h
  unfold insT
  split
  ·rename_i hab
   refine qG0.mpr ⟨fun c hc=>?_,zFe a r h'.2⟩
   rcases qB9.mp ((zFf a r).mem_iff.mp hc) with rfl | hc
   ·exact zMX _ _ hab
   ·exact h'.1 c hc
  ·rename_i hab
   have hab':HT.lexLt b a=false:=by simpa using hab
   refine qG0.mpr ⟨fun c hc=>?_,h⟩
   rcases qB9.mp hc with rfl | hc
   ·exact hab'
   ·exact zMW a b c hab' (h'.1 c hc)
theorem zBt:∀ l,LexP (zDH l)
 | []=>.nil
 | a::r=>zFe a _ (zBt r)
theorem zEI {l m:List (List Int)} (h:m.Perm l) (s:LexP m):m=zDH l :=
 (h.trans (zB1 l).symm).eq_of_pairwise (fun a b _ _ h1 h2=>zKm a b h1 h2) s (zBt l)
noncomputable def zKQ:List (List Key × D)→Option (List (List Int))
 | []=>some []
 | (k,_)::r=>match k.mapM (fun x=>match x with | .inl n=>some n | .inr _=>none),zKQ r with
  | some ns,some nss=>some (ns::nss)
  | _,_=>none
theorem zKn:∀ {k:List Key}{ns:List Int},k.mapM (fun x=>match x with | .inl n=>some n | .inr _=>none)=some ns→k=ns.map Sum.inl
 | [],ns,e=>by simp at e; subst e; rfl
 | .inl n::k,ns,e=>by
  rw [qF6] at e
  cases q:k.mapM (fun x:Key=>match x with | .inl n=>some n | .inr _=>none) with
  | none=>rw [q] at e; cases e
  | some ms=>rw [q] at e; cases e; rw [zKn q]; rfl
 | .inr x::k,ns,e=>by rw [qF6] at e; cases e
theorem zHt:∀ {kvs:List (List Key × D)}{nss:List (List Int)},zKQ kvs=some nss→kvs.map (·.1)=nss.map (·.map Sum.inl)
 | [],nss,e=>by cases e; rfl
 | (k,d)::r,nss,e=>by
  unfold zKQ at e
  split at e
  ·rename_i ns ms e1 e2
   cases e
   simp [zKn e1,zHt e2]
  ·cases e
theorem zJZ {K:W.Frag}{H:Hp}{μ:List Addr}:∀ {ds:List D}{nss:List (List Int)}{vs:List V},zIR ds=some nss→RVs K H μ ds vs→∃ ts:List (Addr × List Int),ts.map (·.2)=nss∧vs=ts.map (fun t=>V.ref t.1)∧∀ t∈ts,H t.1=some (.tup (t.2.map V.int))
 | [],nss,vs,e,r=>by cases e; exact ⟨[],rfl,r.nil_inv,fun t h=>(by cases h)⟩
 | d::ds,nss,vs,e,r=>by
  unfold zIR at e
  split at e
  ·rename_i q; cases q
  ·rename_i xs r' q
   cases q
   split at e
   ·rename_i ns ms e1 e2
    cases e
    obtain ⟨v,ws,rfl,r1,r2⟩:=r.cons_inv
    obtain ⟨ts,a,b,c⟩:=zJZ e2 r2
    unfold RV at r1
    obtain ⟨p,us,rfl,hp,ru⟩:=r1
    rw [zD3 e1 ru] at hp
    refine ⟨(p,ns)::ts,by simp [a],by simp [b],fun t ht=>?_⟩
    rcases qB9.mp ht with rfl | ht
    ·exact hp
    ·exact c t ht
   ·cases e
  ·cases e
theorem zIQ {K:W.Frag}{H:Hp}{μ:List Addr}:∀ {ts:List (Addr × List Int)},(∀ t∈ts,H t.1=some (.tup (t.2.map V.int)))→RVs K H μ (ts.map fun t=>tD t.2) (ts.map fun t=>V.ref t.1)
 | [],_=>.nil
 | t::ts,h=>.cons (by unfold tD RV; exact ⟨t.1,_,rfl,h t (qD4 ..),RVs.ints⟩) (zIQ fun u hu=>h u (qC0 _ hu))
theorem zMY {ts:List (Addr × List Int)}{nss:List (List Int)} (hp:(ts.map (·.2)).Perm nss) (hs:LexS ts):(zDH nss).map tD=ts.map fun t=>tD t.2:=by
 rw [← zEI hp (qN9.mpr hs),qF7]; rfl
noncomputable def zAt:List D→M D:=fun xs S=>match xs with
 | [.lst n]=>match (zA4 S n).bind zCx with
  | some ns=>if ns.length<64 then .ok (.lst S.length) (S++[.lst ((zD1 ns).map D.int)]) else .bad
  | none=>match (zA4 S n).bind zIR with
   | some nss=>.ok (.lst S.length) (S++[.lst ((zDH nss).map tD)])
   | none=>.bad
 | [.tup xs]=>match zCx xs with
  | some ns=>if ns.length<64 then .ok (.lst S.length) (S++[.lst ((zD1 ns).map D.int)]) else .bad
  | none=>.bad
 | [.dct n]=>match S[n]? with
  | some (.dk kvs)=>match zS0 kvs with
   | some ns=>if ns.length<64 then .ok (.lst S.length) (S++[.lst ((zD1 ns).map D.int)]) else .bad
   | none=>.bad
  | some (.dt kvs)=>match zKQ kvs with
   | some nss=>.ok (.lst S.length) (S++[.lst ((zDH nss).map tD)])
   | none=>.bad
  | _=>.bad
 | _=>.bad
theorem zNJ (hc:X.calm=true) (hu:X.A.units+64<cLine):zDG X.K (cAny X (.builtin "sorted")) zAt:=by
 intro xs S d S' H μ vs Q e sr rx h
 unfold zAt at e
 split at e
 ·split at e
  ·rename_i ns e1
   split at e
   ·rename_i hl
    cases e
    obtain ⟨ys,e2,e3⟩:=qA3.mp e1
    obtain ⟨v,rfl,r⟩:=rx.one
    unfold RV at r; obtain ⟨a,rfl,hm⟩:=r
    obtain ⟨ws,q,rr⟩:=sr.sq hm e2
    have z:=zD3 e3 rr
    subst z
    refine ⟨_,zIm,a,ns,rfl,q,hl,fun l ms hl hp hs=>?_⟩
    rw [zGU hp hs]
    exact h.newL sr hl RVs.ints
   ·cases e
  ·split at e
   ·rename_i nss e1
    cases e
    obtain ⟨ys,e2,e3⟩:=qA3.mp e1
    obtain ⟨v,rfl,r⟩:=rx.one
    unfold RV at r; obtain ⟨a,rfl,hm⟩:=r
    obtain ⟨ws,q,rr⟩:=sr.sq hm e2
    obtain ⟨ts,t1,rfl,t3⟩:=zJZ e3 rr
    refine ⟨_,zH3 hc (by omega),a,ts,rfl,q,fun t ht=>SqT.of (t3 t ht),fun l ts' hl hp hs=>?_⟩
    rw [zMY (by rw [← t1]; exact hp.map _) hs] at h
    exact h.newL sr hl (zIQ fun t ht=>t3 t (hp.mem_iff.mp ht))
   ·cases e
 ·split at e
  ·rename_i ns e1
   split at e
   ·rename_i hl
    cases e
    obtain ⟨v,rfl,r⟩:=rx.one
    unfold RV at r
    obtain ⟨a,us,rfl,hp,ru⟩:=r
    rw [zD3 e1 ru] at hp
    refine ⟨_,zIl hc,a,ns,rfl,SqT.of hp,hl,fun l ms hl hp hs=>?_⟩
    rw [zGU hp hs]
    exact h.newL sr hl RVs.ints
   ·cases e
  ·cases e
 ·split at e
  ·rename_i kvs e1
   split at e
   ·rename_i ns e2
    split at e
    ·rename_i hl
     cases e
     obtain ⟨v,rfl,r⟩:=rx.one
     unfold RV at r; obtain ⟨a,rfl,hm⟩:=r
     obtain ⟨ws,hw,rr⟩:=sr.get hm e1
     refine ⟨_,zIn hc,a,ws,ns,rfl,hw,by rw [← rr.1]; exact zHT e2,hl,fun l ms hl hp hs=>?_⟩
     rw [zGU hp hs]
     exact h.newL sr hl RVs.ints
    ·cases e
   ·cases e
  ·rename_i kvs e1
   split at e
   ·rename_i nss e2
    cases e
    obtain ⟨v,rfl,r⟩:=rx.one
    unfold RV at r; obtain ⟨a,rfl,hm⟩:=r
    obtain ⟨ws,hw,rr⟩:=sr.get hm e1
    refine ⟨_,zH4 hc (by omega),a,ws,nss,rfl,hw,by rw [← rr.1]; exact zHt e2,fun l ts hl t3 hp hs=>?_⟩
    rw [zMY hp hs] at h
    exact h.newL sr hl (zIQ t3)
   ·cases e
  ·cases e
 ·cases e
def MtS (K:W.Frag) (T:String) (r:V→List V→Hp→VK→Prop) (o:D→List D→M D):Prop:=∀ x xs S d S' H μ v vs Q,o x xs S=.ok d S'→SR K μ S H→RV K H μ x v→RVs K H μ xs vs→Yld K μ H d S' Q→r v vs H Q
noncomputable def tyOk (T:String) (x:D) (S:zA0):Bool:=match x with
 | .lst n=>decide (T = "list")&&(zA4 S n).isSome
 | .dct n=>decide (T = "dict")&&(match S[n]? with | some (.dk _)=>true | some (.dt _)=>true | _=>false)
 | .int _=>decide (T = "int")
 | .str _=>decide (T = "str")
 | _=>false
theorem zPT {K:W.Frag}{H:Hp}{μ:List Addr}{S:zA0}{T:String}{x:D}{v:V} (sr:SR K μ S H) (h:tyOk T x S=true) (r:RV K H μ x v):tyV K T v H:=by
 unfold tyOk at h
 split at h
 ·simp only [qC9,decide_eq_true_eq] at h
  obtain ⟨h1,h2⟩:=h
  obtain ⟨xs,hx⟩:=qI3.mp h2
  unfold RV at r; obtain ⟨a,rfl,hm⟩:=r
  obtain ⟨vs,q,_⟩:=sr.sq hm hx
  exact .inl ⟨h1,vs,q⟩
 ·simp only [qC9,decide_eq_true_eq] at h
  obtain ⟨h1,h2⟩:=h
  unfold RV at r; obtain ⟨a,rfl,hm⟩:=r
  split at h2
  ·rename_i kvs ho
   obtain ⟨ws,q,_⟩:=sr.get hm ho
   exact .inr (.inr (.inl ⟨h1,.inl ⟨ws,q⟩⟩))
  ·rename_i kvs ho
   obtain ⟨ws,q,_⟩:=sr.get hm ho
   exact .inr (.inr (.inl ⟨h1,.inr ⟨ws,q⟩⟩))
  ·cases h2
 ·unfold RV at r; subst r
  exact (of_decide_eq_true h:T = "int")
 ·unfold RV at r; subst r
  exact (of_decide_eq_true h:T = "str")
 ·cases h
noncomputable def zDo (T:String) (o:D→List D→M D) (a:C) (as:CA):C:=fun ρ=>bnd (a ρ) fun x S=>if tyOk T x S then bnd (as ρ) (fun xs=>o x xs) S else .bad
variable {o e:Expr}{es:List Expr}{co:C}{ca:CA}{name:Str}{apos cpos:Pos}{T id:String}{m:D→List D→M D}
theorem zGE (pa:PlainAttrs T) (slot:Slot T name id) (hty:typeOf (.builtin id)=pure (.type "method_descriptor")) (hm:MtS X.K T (zDr X id) m) (ho:PE X o (tOf X.K co)) (ha:PA X (e::es) (tOfA X.K ca))
  (hbase:attributeBase o name X.env (eval o X.env)=eval o X.env)
  (hfew:((backTo cpos (starEach (e::es) X.env)).all (fun x=>!x.1)&&(backToKw cpos (keywordEach [] X.env)).all (fun x=>x.1.isSome)
   && decide ((e::es).length+([]:List Keyword).length+(if ([]:List Keyword).isEmpty then 0 else 1)<30))=true)
  (hline:(apos.endLine == cpos.line)=true) (hs:starEach (e::es) X.env=(false,eval e X.env)::starEach es X.env) (hplain:(backTo cpos (starEach es X.env)).any (·.1)=false) :
  PE X (.Call (.Attribute o name apos) (e::es) [] cpos) (tOf X.K (zDo T m co ca)):=(zWo pa slot hty zU4 ho ha hbase hfew hline hs hplain).weak (by
 rintro σ H Q ⟨μ,ρ,S,d,S',sr,re,e,y⟩
 obtain ⟨x,S1,e1,e⟩:=zA6 e
 split at e
 ·rename_i hk
  obtain ⟨xs,S2,e2,e⟩:=zA6 e
  refine ⟨μ,ρ,S,x,S1,sr,re,e1,fun v H1 μ1 sr1 st1 r1=>⟨zPT sr1 hk r1,μ1,ρ,S1,xs,S2,sr1,re.up st1,e2,fun vs H2 μ2 sr2 st2 r2=>?_⟩⟩
  exact hm x xs S2 d S' H2 μ2 v vs Q e sr2 (RV.up st2.tk st2.ext _ _ r1) r2 (y.shift (st1.trans st2 sr2.nd))
 ·cases e)
noncomputable def zKF (T:String) (o:D→List D→M D) (a:C):C:=fun ρ=>bnd (a ρ) fun x S=>if tyOk T x S then o x [] S else .bad
theorem zOx (pa:PlainAttrs T) (slot:Slot T name id) (hty:typeOf (.builtin id)=pure (.type "method_descriptor")) (hm:MtS X.K T (zDr X id) m) (ho:PE X o (tOf X.K co))
  (hbase:attributeBase o name X.env (eval o X.env)=eval o X.env) (hline:(apos.endLine == cpos.line)=true):PE X (.Call (.Attribute o name apos) [] [] cpos) (tOf X.K (zKF T m co)):=(zTA pa slot hty zU4 ho hbase hline).weak (by
 rintro σ H Q ⟨μ,ρ,S,d,S',sr,re,e,y⟩
 obtain ⟨x,S1,e1,e⟩:=zA6 e
 split at e
 ·rename_i hk
  exact ⟨μ,ρ,S,x,S1,sr,re,e1,fun v H1 μ1 sr1 st1 r1=>⟨zPT sr1 hk r1,hm x [] S1 d S' H1 μ1 v [] Q e sr1 r1 RVs.nil (y.shift st1)⟩⟩
 ·cases e)
noncomputable def zBg (g:List D→List D→Option (List D × D)):D→List D→M D:=fun x xs S=>match x with
 | .lst n=>match S[n]? with
  | some (.lst ys)=>match g ys xs with
   | some (zs,d)=>.ok d (S.set n (.lst zs))
   | none=>.bad
  | _=>.bad
 | _=>.bad
theorem SR.putL {K:W.Frag}{H:Hp}{μ:List Addr}{S:zA0}{n:Nat}{p:Addr}{vs ws:List V}{zs:List D} (sr:SR K μ S H) (hn:μ[n]?=some p) (hp:H p=some (.lst vs)) (r:RVs K H μ zs ws):SR K μ (S.set n (.lst zs)) (upd H p (.lst ws))∧Step K μ μ H (upd H p (.lst ws)) :=
 sr.put hn hp (fun _ z=>by cases z) (fun _ _ z=>by cases z) ⟨ws,zAb,RVs.up (zK2 hp) ⟨[],by simp⟩ _ _ r⟩
theorem zJ3 {g:List D→List D→Option (List D × D)}
  (h:∀ (K:W.Frag) H μ ys xs zs d vs us,g ys xs=some (zs,d)→RVs K H μ ys vs→RVs K H μ xs us→∃ ws w,RVs K H μ zs ws∧RV K H μ d w∧∀ (p:Addr) (Q:VK),H p=some (.lst vs)→Q w (upd H p (.lst ws))→zDr X id (.ref p) us H Q):MtS X.K "list" (zDr X id) (zBg g):=by
 intro x xs S d S' H μ v us Q e sr rx rs y
 unfold zBg at e
 split at e
 ·rename_i n
  split at e
  ·rename_i ys ho
   split at e
   ·rename_i zs d' hg
    cases e
    unfold RV at rx; obtain ⟨p,rfl,hm⟩:=rx
    obtain ⟨vs,hp,rr⟩:=sr.lst hm ho
    obtain ⟨ws,w,r1,r2,fin⟩:=h X.K H μ ys xs zs d vs us hg rr rs
    obtain ⟨s1,s2⟩:=sr.putL hm hp r1
    exact fin p Q hp (y w _ μ s1 s2 (RV.up s2.tk s2.ext _ _ r2))
   ·cases e
  ·cases e
 ·cases e
noncomputable def zAy:List D→List D→Option (List D × D):=fun ys xs=>match xs with
 | [x]=>if ys.length<lim then some (ys++[x],.non) else none
 | _=>none
theorem zMT:MtS X.K "list" (zDr X "list.append") (zBg zAy):=zJ3 fun K H μ ys xs zs d vs us e r1 r2=>by
 unfold zAy at e
 split at e
 ·split at e
  ·rename_i hl; cases e
   obtain ⟨v,rfl,r3⟩:=r2.one
   exact ⟨vs++[v],.non,r1.append (.cons r3 .nil),zEU,fun p Q hp q=>⟨_,zHO,p,vs,v,rfl,rfl,hp,by rw [← r1.len]; exact zGe hl,q⟩⟩
  ·cases e
 ·cases e
noncomputable def zEn:List D→List D→Option (List D × D):=fun ys xs=>match xs with
 | [.int i,x]=>if ys.length<1000∧0≤i∧i.toNat≤ys.length then some (ys.take i.toNat++x::ys.drop i.toNat,.non) else none
 | _=>none
theorem zMR:MtS X.K "list" (zDr X "list.insert") (zBg zEn):=zJ3 fun K H μ ys xs zs d vs us e r1 r2=>by
 unfold zEn at e
 split at e
 ·rename_i i x
  split at e
  ·rename_i hl; cases e
   obtain ⟨h1,h2,h3⟩:=hl
   obtain ⟨v,u,rfl,r3,r4⟩:=r2.two
   unfold RV at r3; subst r3
   have ei:i=((i.toNat:Nat):Int):=by omega
   exact ⟨vs.take i.toNat++u::vs.drop i.toNat,.non,(r1.take _).append (.cons r4 (r1.drop _)),zEU,fun p Q hp q=>⟨_,zMP,p,vs,i.toNat,u,rfl,by rw [← ei],hp,by rw [← r1.len]; exact h1,by rw [← r1.len]; exact h3,q⟩⟩
  ·cases e
 ·cases e
noncomputable def gPop:List D→List D→Option (List D × D):=fun ys xs=>match xs with
 | []=>match ys[ys.length - 1]? with
  | some y=>some (ys.dropLast,y)
  | none=>none
 | _=>none
theorem RVs.dropLast {K:W.Frag}{H:Hp}{μ:List Addr}{ds:List D}{vs:List V} (r:RVs K H μ ds vs):RVs K H μ ds.dropLast vs.dropLast:=by
 rw [qP3,qP3,r.len]
 exact r.take _
theorem zU5:MtS X.K "list" (zDr X "list.pop") (zBg gPop):=zJ3 fun K H μ ys xs zs d vs us e r1 r2=>by
 unfold gPop at e
 split at e
 ·split at e
  ·rename_i y hy; cases e
   have:=r2.nil_inv
   subst this
   obtain ⟨v,e1,r3⟩:=r1.get hy
   exact ⟨vs.dropLast,v,r1.dropLast,r3,fun p Q hp q=>⟨_,zU3,p,vs,v,rfl,rfl,hp,by rw [← r1.len]; exact e1,q⟩⟩
  ·cases e
 ·cases e
noncomputable def zDA:D→List D→M D:=fun x xs S=>match x,xs with
 | .lst n,[.lst k]=>match S[n]?,S[k]? with
  | some (.lst ys),some (.lst zs)=>if ys.length+zs.length≤lim then .ok .non (S.set n (.lst (ys++zs))) else .bad
  | _,_=>.bad
 | .lst n,[.tup zs]=>match S[n]? with
  | some (.lst ys)=>if ys.length+zs.length≤lim then .ok .non (S.set n (.lst (ys++zs))) else .bad
  | _=>.bad
 | _,_=>.bad
theorem zMS:MtS X.K "list" (zDr X "list.extend") zDA:=by
 intro x xs S d S' H μ v us Q e sr rx rs y
 unfold zDA at e
 split at e
 ·split at e
  ·rename_i ys zs o1 o2
   split at e
   ·rename_i hl
    cases e
    unfold RV at rx; obtain ⟨p,rfl,m1⟩:=rx
    obtain ⟨u,rfl,r2⟩:=rs.one
    unfold RV at r2; obtain ⟨p2,rfl,m2⟩:=r2
    obtain ⟨vs,h1,r1⟩:=sr.lst m1 o1
    obtain ⟨ws,h2,r3⟩:=sr.lst m2 o2
    obtain ⟨s1,s2⟩:=sr.putL m1 h1 (r1.append r3)
    exact ⟨_,zMQ,p,p2,vs,ws,rfl,rfl,h1,h2,by rw [← r1.len,← r3.len]; exact zGf hl,y _ _ μ s1 s2 zEU⟩
   ·cases e
  ·cases e
 ·split at e
  ·rename_i ys o1
   split at e
   ·rename_i hl
    cases e
    unfold RV at rx; obtain ⟨p,rfl,m1⟩:=rx
    obtain ⟨u,rfl,r2⟩:=rs.one
    unfold RV at r2; obtain ⟨p2,ws,rfl,h2,r3⟩:=r2
    obtain ⟨vs,h1,r1⟩:=sr.lst m1 o1
    obtain ⟨s1,s2⟩:=sr.putL m1 h1 (r1.append r3)
    exact ⟨_,zRz,p,p2,vs,ws,rfl,rfl,h1,SqT.of h2,by rw [← r1.len,← r3.len]; exact zGf hl,y _ _ μ s1 s2 zEU⟩
   ·cases e
  ·cases e
 ·cases e
noncomputable def zGQ:D→List D→M D:=fun x xs S=>match x,xs with
 | .dct n,[.tup ks,z]=>match S[n]?,ks.mapM zCN with
  | some (.dt kvs),some k=>match valD kvs k with
   | some v=>.ok v S
   | none=>if kvs.length<lim then .ok z (S.set n (.dt (kvs++[(k,z)]))) else .bad
  | some (.dk []),some k=>.ok z (S.set n (.dt [(k,z)]))
  | _,_=>.bad
 | .dct n,[i,z]=>match S[n]?,zCN i with
  | some (.dk kvs),some k=>match valD kvs k with
   | some v=>.ok v S
   | none=>if kvs.length<lim then .ok z (S.set n (.dk (putD kvs k z))) else .bad
  | _,_=>.bad
 | _,_=>.bad
theorem RKs.snoc {K:W.Frag}{H:Hp}{μ:List Addr}{κ:Type}{k:κ}{d:D}{v:V}{kvs:List (κ × D)}{ws:List (κ × V)} (h:RKs K H μ kvs ws) (rv:RV K H μ d v):RKs K H μ (kvs++[(k,d)]) (ws++[(k,v)]) :=
 ⟨by rw [qE0,qE0,h.1]; rfl,by rw [qE0,qE0]; exact h.2.append (.cons rv .nil)⟩
theorem zRA (hu:X.A.units+1<cLine):MtS X.K "dict" (zDr X "dict.setdefault") zGQ:=by
 intro x xs S d S' H μ v us Q e sr rx rs y
 unfold zGQ at e
 split at e
 ·rename_i n ks z
  unfold RV at rx; obtain ⟨a,rfl,hm⟩:=rx
  obtain ⟨u1,u2,rfl,r1,r2⟩:=rs.two
  unfold RV at r1; obtain ⟨b,bs,rfl,hb,rb⟩:=r1
  split at e
  ·rename_i kvs k ho hk
   have:=zGg hk rb
   subst this
   obtain ⟨ws,hw,rr⟩:=sr.get hm ho
   split at e
   ·rename_i w hv
    cases e
    obtain ⟨u,g1,g2⟩:=(rr.val (k:=k)).1 _ hv
    refine ⟨_,zF2 hu,a,b,ws,k,u2,rfl,rfl,hb,.inl hw,fun v' e'=>?_,fun e'=>?_⟩
    ·rw [g1] at e'; cases e'; exact y.self sr g2
    ·rw [g1] at e'; cases e'
   ·rename_i hv
    split at e
    ·rename_i hl
     cases e
     have g1:=(rr.val (k:=k)).2 hv
     have tk:TF X.K H (upd H a (.dT (ws++[(k,u2)]))):=zDI hw (fun _ z=>by cases z) (fun _ _ z=>by cases z)
     obtain ⟨s1,s2⟩:=sr.put (o:=.dT (ws++[(k,u2)])) (o':=.dt (kvs++[(k,d)])) hm hw (fun _ z=>by cases z) (fun _ _ z=>by cases z) ⟨_,zAb,(rr.snoc r2).up tk ⟨[],by simp⟩⟩
     exact ⟨_,zF2 hu,a,b,ws,k,u2,rfl,rfl,hb,.inl hw,fun v' e'=>(by rw [g1] at e'; cases e'),fun _=>⟨by rw [← rr.len]; exact zGe hl,y _ _ μ s1 s2 (RV.up tk ⟨[],by simp⟩ _ _ r2)⟩⟩
    ·cases e
  ·rename_i k ho hk
   cases e
   have:=zGg hk rb
   subst this
   obtain ⟨ws,hw,rr⟩:=sr.get hm ho
   have w0:ws=[]:=qE6.mp rr.len.symm
   subst w0
   have tk:TF X.K H (upd H a (.dT [(k,u2)])):=zDI hw (fun _ z=>by cases z) (fun _ _ z=>by cases z)
   obtain ⟨s1,s2⟩:=sr.put (o:=.dT [(k,u2)]) (o':=.dt [(k,d)]) hm hw (fun _ z=>by cases z) (fun _ _ z=>by cases z) ⟨_,zAb,RKs.cons (RV.up tk ⟨[],by simp⟩ _ _ r2) .nil⟩
   exact ⟨_,zF2 hu,a,b,[],k,u2,rfl,rfl,hb,.inr ⟨rfl,hw⟩,fun v' e'=>(by cases e'),fun _=>⟨by decide,y _ _ μ s1 s2 (RV.up tk ⟨[],by simp⟩ _ _ r2)⟩⟩
  ·cases e
 ·rename_i n i z hno
  unfold RV at rx; obtain ⟨a,rfl,hm⟩:=rx
  obtain ⟨u1,u2,rfl,r1,r2⟩:=rs.two
  split at e
  ·rename_i kvs k ho hk
   have:=zFa hk r1
   subst this
   obtain ⟨ws,hw,rr⟩:=sr.get hm ho
   split at e
   ·rename_i w hv
    cases e
    obtain ⟨u,g1,g2⟩:=(rr.val (k:=k)).1 _ hv
    refine ⟨_,zGc,a,ws,k,u2,rfl,rfl,hw,fun v' e'=>?_,fun e'=>?_⟩
    ·rw [g1] at e'; cases e'; exact y.self sr g2
    ·rw [g1] at e'; cases e'
   ·rename_i hv
    split at e
    ·rename_i hl
     cases e
     have g1:=(rr.val (k:=k)).2 hv
     have tk:TF X.K H (upd H a (.dK (putK ws k u2))):=zDI hw (fun _ z=>by cases z) (fun _ _ z=>by cases z)
     obtain ⟨s1,s2⟩:=sr.put (o:=.dK (putK ws k u2)) (o':=.dk (putD kvs k d)) hm hw (fun _ z=>by cases z) (fun _ _ z=>by cases z) ⟨_,zAb,(rr.put r2).up tk ⟨[],by simp⟩⟩
     exact ⟨_,zGc,a,ws,k,u2,rfl,rfl,hw,fun v' e'=>(by rw [g1] at e'; cases e'),fun _=>⟨by rw [← rr.len]; exact zGe hl,y _ _ μ s1 s2 (RV.up tk ⟨[],by simp⟩ _ _ r2)⟩⟩
    ·cases e
  ·cases e
 ·cases e
noncomputable def zL3 (n:Nat) (i v:D) (S:zA0):Option zA0:=match S[n]?,i with
 | some (.dt kvs),.tup ks=>match ks.mapM zCN with
  | some k=>if kvs.length<lim then some (S.set n (.dt (putD kvs k v))) else none
  | none=>none
 | some (.dk []),.tup ks=>match ks.mapM zCN with
  | some k=>some (S.set n (.dt [(k,v)]))
  | none=>none
 | _,_=>none
theorem zHB (hu:X.A.units+1<cLine):PSet X (fun o i v H Q=>∃ a b k,o=.ref a∧i=.ref b∧H b=some (.tup (k.map kV))∧((∃ kvs,H a=some (.dT kvs)∧kvs.length<sizeLine∧Q (upd H a (.dT (putK kvs k v))))∨(H a=some (.dK [])∧Q (upd H a (.dT [(k,v)]))))):=by
 intro pins s σ H o i v ov iv u Q I ro ri rv h
 obtain ⟨a,b,k,rfl,rfl,hb,⟨kvs,ha,hl,q⟩ | ⟨ha,q⟩⟩:=h
 ·obtain rfl:ov=Value.ref a:=ro
  exact zFq hu I (DPut.t ha hb hl) ri rv fun s4 I4=>⟨_,I4,q⟩
 ·obtain rfl:ov=Value.ref a:=ro
  have hb':upd H a (.dT []) b=some (.tup (k.map kV)):=by
   rw [zAa (fun z=>by rw [z,ha] at hb; cases hb)]; exact hb
  refine zFq hu (I.dTnil ha) (DPut.t (kvs:=[]) zAb hb' (by decide)) ri rv fun s4 I4=>⟨_,I4,?_⟩
  rw [zM0]
  exact q
noncomputable def oSet:D→D→D→zA0→Option zA0:=fun x i v S=>match x with
 | .lst n=>match S[n]?,i with
  | some (.lst ys),.int k=>match ixN ys.length k with
   | some j=>some (S.set n (.lst (ys.set j v)))
   | none=>none
  | _,_=>none
 | .dct n=>match S[n]?,zCN i with
  | some (.dk kvs),some k=>if kvs.length<lim then some (S.set n (.dk (putD kvs k v))) else none
  | _,_=>zL3 n i v S
 | _=>none
theorem zOv (hu:X.A.units+1<cLine):PSet X (fun o i v H Q=>∃ a H4,o=.ref a∧DPut H a i v H4∧Q H4):=by
 intro pins s σ H o i v ov iv u Q I ro ri rv h
 obtain ⟨a,H4,rfl,g,q⟩:=h
 obtain rfl:ov=Value.ref a:=ro
 exact zFq hu I g ri rv fun s4 I4=>⟨H4,I4,q⟩
theorem zRa (hu:X.A.units+1<cLine) {x i v:D}{S S':zA0}{H:Hp}{μ:List Addr}{ov iv vv:V}{Q:Hp→Prop} (e:oSet x i v S=some S') (sr:SR X.K μ S H) (rx:RV X.K H μ x ov) (ri:RV X.K H μ i iv) (rv:RV X.K H μ v vv) (y:∀ H' ,SR X.K μ S' H'→Step X.K μ μ H H'→Q H'):zMl X ov iv vv H Q:=by
 unfold oSet at e
 split at e
 ·split at e
  ·rename_i ys k ho
   split at e
   ·rename_i j hj
    cases e
    unfold RV at rx ri; obtain ⟨p,rfl,hm⟩:=rx; subst ri
    obtain ⟨vs,hp,rr⟩:=sr.lst hm ho
    obtain ⟨s1,s2⟩:=sr.putL hm hp (rr.set rv j)
    exact ⟨_,zOu,p,vs,k,j,rfl,rfl,hp,by rw [← rr.len]; exact hj,y _ s1 s2⟩
   ·cases e
  ·cases e
 ·split at e
  ·rename_i kvs k ho hk
   split at e
   ·rename_i hl
    cases e
    unfold RV at rx; obtain ⟨p,rfl,hm⟩:=rx
    obtain ⟨ws,hp,rr⟩:=sr.get hm ho
    have z:=zFa hk ri
    subst z
    have tk:TF X.K H (upd H p (.dK (putK ws k vv))):=zDI hp (fun _ z=>by cases z) (fun _ _ z=>by cases z)
    obtain ⟨s1,s2⟩:=sr.put (o:=.dK (putK ws k vv)) (o':=.dk (putD kvs k v)) hm hp (fun _ z=>by cases z) (fun _ _ z=>by cases z) ⟨_,zAb,(rr.put rv).up tk ⟨[],by simp⟩⟩
    exact ⟨_,zOv hu,p,_,rfl,DPut.k hp (by rw [← rr.len]; exact zGe hl),y _ s1 s2⟩
   ·cases e
  ·rename_i hno
   clear hno
   unfold zL3 at e
   unfold RV at rx; obtain ⟨p,rfl,hm⟩:=rx
   split at e
   ·rename_i kvs ks ho
    unfold RV at ri; obtain ⟨b,bs,rfl,hb,rb⟩:=ri
    split at e
    ·rename_i k hk
     have:=zGg hk rb
     subst this
     split at e
     ·rename_i hl
      cases e
      obtain ⟨ws,hp,rr⟩:=sr.get hm ho
      have tk:TF X.K H (upd H p (.dT (putK ws k vv))):=zDI hp (fun _ z=>by cases z) (fun _ _ z=>by cases z)
      obtain ⟨s1,s2⟩:=sr.put (o:=.dT (putK ws k vv)) (o':=.dt (putD kvs k v)) hm hp (fun _ z=>by cases z) (fun _ _ z=>by cases z) ⟨_,zAb,(rr.put rv).up tk ⟨[],by simp⟩⟩
      exact ⟨_,zHB hu,p,b,k,rfl,rfl,hb,.inl ⟨ws,hp,by rw [← rr.len]; exact zGe hl,y _ s1 s2⟩⟩
     ·cases e
    ·cases e
   ·rename_i ks ho
    unfold RV at ri; obtain ⟨b,bs,rfl,hb,rb⟩:=ri
    split at e
    ·rename_i k hk
     cases e
     have:=zGg hk rb
     subst this
     obtain ⟨ws,hw,rr⟩:=sr.get hm ho
     have w0:ws=[]:=qE6.mp rr.len.symm
     subst w0
     have tk:TF X.K H (upd H p (.dT [(k,vv)])):=zDI hw (fun _ z=>by cases z) (fun _ _ z=>by cases z)
     obtain ⟨s1,s2⟩:=sr.put (o:=.dT [(k,vv)]) (o':=.dt [(k,v)]) hm hw (fun _ z=>by cases z) (fun _ _ z=>by cases z) ⟨_,zAb,RKs.cons (RV.up tk ⟨[],by simp⟩ _ _ rv) .nil⟩
     exact ⟨_,zHB hu,p,b,k,rfl,rfl,hb,.inr ⟨hw,y _ s1 s2⟩⟩
    ·cases e
   ·cases e
 ·cases e
end
open PySem PySem.Spec PyProof.Rows
inductive RS where
 | bad | nx (ρ:Env1) (S:zA0) | rt (d:D) (S:zA0) | bk (ρ:Env1) (S:zA0) | ct (ρ:Env1) (S:zA0) | er (c:Str) (S:zA0)
noncomputable abbrev CS:=Env1→zA0→RS
noncomputable def zIJ (X:Cx) (μ:List Addr) (H:Hp) (E:Ends):RS→Prop
 | .bad=>False
 | .er _ _=>False
 | .nx ρ' S'=>∀ σ' H' μ',SR X.K μ' S' H'→Step X.K μ μ' H H'→RE X.K H' μ' ρ' σ'→E.nx σ' H'
 | .bk ρ' S'=>∀ σ' H' μ',SR X.K μ' S' H'→Step X.K μ μ' H H'→RE X.K H' μ' ρ' σ'→E.bk σ' H'
 | .ct ρ' S'=>∀ σ' H' μ',SR X.K μ' S' H'→Step X.K μ μ' H H'→RE X.K H' μ' ρ' σ'→E.ct σ' H'
 | .rt d S'=>Yld X.K μ H d S' E.rt
inductive tOfS (X:Cx) (c:CS) (E:Ends) (σ:St) (H:Hp):Prop
 | mk (μ:List Addr) (ρ:Env1) (S:zA0) (sr:SR X.K μ S H) (re:RE X.K H μ ρ σ) (y:zIJ X μ H E (c ρ S))
theorem zIJ.shift {X:Cx}{μ μ1:List Addr}{H H1:Hp}{E:Ends}{r:RS} (h:zIJ X μ H E r) (st:Step X.K μ μ1 H H1):zIJ X μ1 H1 E r:=by
 cases r with
 | bad=>exact h
 | er _ _=>exact h
 | nx ρ S=>exact fun σ' H' μ' sr s2 re=>h σ' H' μ' sr (st.trans s2 sr.nd) re
 | bk ρ S=>exact fun σ' H' μ' sr s2 re=>h σ' H' μ' sr (st.trans s2 sr.nd) re
 | ct ρ S=>exact fun σ' H' μ' sr s2 re=>h σ' H' μ' sr (st.trans s2 sr.nd) re
 | rt d S=>exact Yld.shift h st
noncomputable def zA5:CS:=fun ρ S=>.nx ρ S
noncomputable def sBrk:CS:=fun ρ S=>.bk ρ S
noncomputable def sCnt:CS:=fun ρ S=>.ct ρ S
noncomputable def sBad:CS:=fun _ _=>.bad
noncomputable def zQY:CS:=fun _ S=>.rt .non S
noncomputable def sRet (c:C):CS:=fun ρ S=>match c ρ S with
 | .ok d S'=>.rt d S'
 | .bad=>.bad
 | .er _ _=>.bad
noncomputable def zDv (c:C):CS:=fun ρ S=>match c ρ S with
 | .ok _ S'=>.nx ρ S'
 | .bad=>.bad
 | .er _ _=>.bad
noncomputable def sSeq (a b:CS):CS:=fun ρ S=>match a ρ S with
 | .nx ρ' S'=>b ρ' S'
 | r=>r
noncomputable def sIf (t:CT) (a b:CS):CS:=fun ρ S=>match t ρ S with
 | .ok k S'=>if k then a ρ S' else b ρ S'
 | .bad=>.bad
 | .er _ _=>.bad
noncomputable abbrev G:=D→Env1→M Env1
noncomputable def sAsg (c:C) (g:G):CS:=fun ρ S=>match c ρ S with
 | .ok d S'=>match g d ρ S' with
  | .ok ρ' S2=>.nx ρ' S2
  | .bad=>.bad
  | .er _ _=>.bad
 | .bad=>.bad
 | .er _ _=>.bad
section
variable {X:Cx}{e a b tg:Expr}{ce ca cb:C}{pos:Pos}
theorem zQD:PS X (.Pass pos) (tOfS X zA5):=zRc.weak fun E σ H ⟨μ,ρ,S,sr,re,p⟩=>p σ H μ sr (Step.refl _ _ _) re
theorem zSS:PS X (.Break pos) (tOfS X sBrk):=zOM.weak fun E σ H ⟨μ,ρ,S,sr,re,p⟩=>p σ H μ sr (Step.refl _ _ _) re
theorem zSR:PS X (.Continue pos) (tOfS X sCnt):=zIW.weak fun E σ H ⟨μ,ρ,S,sr,re,p⟩=>p σ H μ sr (Step.refl _ _ _) re
theorem zST {st:Stmt}:PS X st (tOfS X sBad):=zOL.weak fun E σ H ⟨μ,ρ,S,sr,re,p⟩=>p
theorem zQC:PS X (.Return none pos) (tOfS X zQY):=zRb.weak fun E σ H ⟨μ,ρ,S,sr,re,p⟩=>p _ H μ sr (Step.refl _ _ _) zEU
theorem zSP (he:PE X e (tOf X.K ce)):PS X (.Return (some e) pos) (tOfS X (sRet ce)):=(zTm he).weak (by
 rintro E σ H ⟨μ,ρ,S,sr,re,p⟩
 unfold sRet at p
 split at p
 ·rename_i d S' h
  exact ⟨μ,ρ,S,d,S',sr,re,h,p⟩
 ·exact False.elim p
 ·exact False.elim p)
theorem zQE (he:PE X e (tOf X.K ce)) (hs:swapsWith e none pos.line X.env=pure false):PS X (.Expr e pos) (tOfS X (zDv ce)):=(zRd he hs).weak (by
 rintro E σ H ⟨μ,ρ,S,sr,re,p⟩
 unfold zDv at p
 split at p
 ·rename_i d S' h
  exact ⟨μ,ρ,S,d,S',sr,re,h,fun v H1 μ1 sr1 st1 r1=>p σ H1 μ1 sr1 st1 (re.up st1)⟩
 ·exact False.elim p
 ·exact False.elim p)
theorem zQB:PSs X [] (tOfS X zA5):=zR9.weak fun E σ H ⟨μ,ρ,S,sr,re,p⟩=>p σ H μ sr (Step.refl _ _ _) re
theorem zOr {st:Stmt}{rest:List Stmt}{c1 c2:CS} (h1:PS X st (tOfS X c1)) (h2:PSs X rest (tOfS X c2)):PSs X (st::rest) (tOfS X (sSeq c1 c2)):=(zOJ h1 h2).weak (by
 rintro E σ H ⟨μ,ρ,S,sr,re,p⟩
 refine ⟨μ,ρ,S,sr,re,?_⟩
 unfold sSeq at p
 revert p
 cases c1 ρ S with
 | nx ρ' S'=>exact fun p σ' H' μ' sr' st' re'=>⟨μ',ρ',S',sr',re',p.shift st'⟩
 | bad=>exact fun p=>p
 | er _ _=>exact fun p=>p
 | rt _ _=>exact fun p=>p
 | bk _ _=>exact fun p=>p
 | ct _ _=>exact fun p=>p)
theorem zW3 {t:Expr}{ct:CT}{as bs:List Stmt}{c1 c2:CS} (ht:PT X t (tOfT X.K ct)) (h1:PSs X as (tOfS X c1)) (h2:PSs X bs (tOfS X c2)):PS X (.If t as bs pos) (tOfS X (sIf ct c1 c2)):=(zWj ht h1 h2).weak (by
 rintro E σ H ⟨μ,ρ,S,sr,re,p⟩
 unfold sIf at p
 split at p
 ·rename_i k S' h
  refine ⟨μ,ρ,S,k,S',sr,re,h,fun H1 μ1 sr1 st1=>?_⟩
  cases k with
  | true=>rw [if_pos rfl] at p ⊢; exact ⟨μ1,ρ,S',sr1,re.up st1,p.shift st1⟩
  | false=>rw [if_neg qB1] at p ⊢; exact ⟨μ1,ρ,S',sr1,re.up st1,p.shift st1⟩
 ·exact False.elim p
 ·exact False.elim p)
inductive tOfG (K:W.Frag) (g:G) (v:V) (σ:St) (H:Hp) (Q:St→Hp→Prop):Prop
 | mk (μ:List Addr) (ρ:Env1) (S:zA0) (d:D) (ρ':Env1) (S':zA0) (sr:SR K μ S H) (re:RE K H μ ρ σ) (rv:RV K H μ d v) (e:g d ρ S=.ok ρ' S') (y:∀ σ' H' μ',SR K μ' S' H'→Step K μ μ' H H'→RE K H' μ' ρ' σ'→Q σ' H')
theorem PG.weak {t t':TG} (h:PG X tg t) (w:∀ v σ H Q,t' v σ H Q→t v σ H Q):PG X tg t':=fun pins s σ H v u Q I r q=>h pins s σ H v u Q I r (w v σ H Q q)
noncomputable def gN (i:Nat):G:=fun d ρ S=>.ok (ρ.set i (some d)) S
theorem zQO {i:Nat}{x:Str} (h:PG X (.Name x pos) (zJk i)):PG X (.Name x pos) (tOfG X.K (gN i)):=h.weak (by
 rintro v σ H Q ⟨μ,ρ,S,d,ρ',S',sr,re,rv,e,y⟩
 unfold gN at e; cases e
 exact y _ H μ sr (Step.refl _ _ _) (re.set rv i))
noncomputable def gS (co ci:C):G:=fun d ρ=>bnd (co ρ) fun o=>bnd (ci ρ) fun i S=>match oSet o i d S with
 | some S'=>.ok ρ S'
 | none=>.bad
theorem zT0 (hu:X.A.units+1<cLine) (ho:PE X a (tOf X.K ca)) (hi:PE X b (tOf X.K cb)) (ha:∀ v,assign (.Subscript a b pos) X.env v=(do
   let ov ← holding [v] (eval a X.env)
   let iv ← holding [v,ov] (eval b X.env)
   standAt pos
   holding [v,ov,iv] (setItem ov iv v)
   release [v,ov,iv] [])):PG X (.Subscript a b pos) (tOfG X.K (gS ca cb)):=(zTr ho hi zT1 ha).weak (by
 rintro v σ H Q ⟨μ,ρ,S,d,ρ',S',sr,re,rv,e,y⟩
 obtain ⟨x,S1,e1,e⟩:=zA6 e
 obtain ⟨z,S2,e2,e⟩:=zA6 e
 split at e
 ·rename_i S3 e3
  cases e
  refine ⟨μ,ρ,S,x,S1,sr,re,e1,fun ov H1 μ1 sr1 st1 r1=>⟨μ1,ρ,S1,z,S2,sr1,re.up st1,e2,fun iv H2 μ2 sr2 st2 r2=>?_⟩⟩
  have st12:=st1.trans st2 sr2.nd
  refine zRa hu e3 sr2 (RV.up st2.tk st2.ext _ _ r1) r2 (RV.up st12.tk st12.ext _ _ rv) fun H3 sr3 st3=>?_
  exact y σ H3 μ2 sr3 (st12.trans st3 sr3.nd) (re.up (st12.trans st3 sr3.nd))
 ·cases e)
noncomputable def gTs:List G→List D→Env1→M Env1
 | [],[]=>fun ρ=>ret ρ
 | g::gs,d::ds=>fun ρ=>bnd (g d ρ) fun ρ1=>gTs gs ds ρ1
 | _,_=>fun _=>bad
noncomputable def gT (gs:List G):G:=fun d ρ=>match d with
 | .tup xs=>gTs gs xs ρ
 | _=>bad
inductive zMa (K:W.Frag) (gs:List G) (vs:List V) (σ:St) (H:Hp) (Q:St→Hp→Prop):Prop
 | mk (μ:List Addr) (ρ:Env1) (S:zA0) (ds:List D) (ρ':Env1) (S':zA0) (sr:SR K μ S H) (re:RE K H μ ρ σ) (rv:RVs K H μ ds vs) (e:gTs gs ds ρ S=.ok ρ' S') (y:∀ σ' H' μ',SR K μ' S' H'→Step K μ μ' H H'→RE K H' μ' ρ' σ'→Q σ' H')
theorem PGs.weak {es:List Expr}{t t':TGs} (h:PGs X es t) (w:∀ v σ H Q,t' v σ H Q→t v σ H Q):PGs X es t':=fun pins s σ H v u Q I r q=>h pins s σ H v u Q I r (w v σ H Q q)
theorem zQN:PGs X [] (zMa X.K []):=zMz.weak (by
 rintro v σ H Q ⟨μ,ρ,S,ds,ρ',S',sr,re,rv,e,y⟩
 cases ds with
 | nil =>
  obtain ⟨rfl,rfl⟩:=zAl e
  exact ⟨rv.nil_inv,y σ H μ sr (Step.refl _ _ _) re⟩
 | cons d ds=>cases e)
theorem zOt {es:List Expr}{g:G}{gs:List G} (h1:PG X e (tOfG X.K g)) (h2:PGs X es (zMa X.K gs)) (hs:(assignEach (e::es) X.env).map (·.2)=assign e X.env::(assignEach es X.env).map (·.2)):PGs X (e::es) (zMa X.K (g::gs)):=(zKb h1 h2 hs).weak (by
 rintro v σ H Q ⟨μ,ρ,S,ds,ρ',S',sr,re,rv,e,y⟩
 cases ds with
 | nil=>cases e
 | cons d ds =>
  obtain ⟨ρ1,S1,e1,e⟩:=zA6 e
  obtain ⟨u,us,rfl,r1,r2⟩:=rv.cons_inv
  refine ⟨u,us,rfl,μ,ρ,S,d,ρ1,S1,sr,re,r1,e1,fun σ1 H1 μ1 sr1 st1 re1=>?_⟩
  exact ⟨μ1,ρ1,S1,ds,ρ',S',sr1,re1,RVs.up st1.tk st1.ext _ _ r2,e,fun σ2 H2 μ2 sr2 st2 re2=>y σ2 H2 μ2 sr2 (st1.trans st2 sr2.nd) re2⟩)
theorem zS5 {gs:List G}:∀ {ds:List D}{ρ ρ':Env1}{S S':zA0},gTs gs ds ρ S=.ok ρ' S'→ds.length=gs.length:=by
 induction gs with
 | nil=>intro ds ρ ρ' S S' e; cases ds with | nil=>rfl | cons _ _=>cases e
 | cons g gs ih =>
  intro ds ρ ρ' S S' e
  cases ds with
  | nil=>cases e
  | cons d ds =>
   obtain ⟨ρ1,S1,e1,e⟩:=zA6 e
   rw [qD0,qD0,ih e]
theorem zSZ {es:List Expr}{k:Nat}{gs:List G} (hc:X.calm=true) (h:PGs X es (zMa X.K gs)) (hn:(assignEach es X.env).length=gs.length) (hst:(assignEach es X.env).findIdx? (·.1)=none):PG X (.Tuple es k pos) (tOfG X.K (gT gs)) :=
 (zQ1 hc h hn hst).weak (by
 rintro v σ H Q ⟨μ,ρ,S,d,ρ',S',sr,re,rv,e,y⟩
 unfold gT at e
 split at e
 ·rename_i xs
  unfold RV at rv
  obtain ⟨p,vs,rfl,q,rr⟩:=rv
  exact ⟨p,vs,rfl,SqT.of q,by rw [← rr.len]; exact zS5 e,μ,ρ,S,xs,ρ',S',sr,re,rr,e,y⟩
 ·cases e)
theorem zPV {g:G} (he:PE X e (tOf X.K ce)) (hg:PG X tg (tOfG X.K g)) (hs:swapsWithSole [tg] e pos.line X.env=pure false) (hw:swappedStores [tg] e X.env=pure none) (h1:(assignEach [tg] X.env).map (·.2)=[assign tg X.env]):PS X (.Assign [tg] e pos) (tOfS X (sAsg ce g)):=(zTo he hg hs hw h1).weak (by
 rintro E σ H ⟨μ,ρ,S,sr,re,p⟩
 unfold sAsg at p
 split at p
 ·rename_i d S' h
  split at p
  ·rename_i ρ' S2 h2
   refine ⟨μ,ρ,S,d,S',sr,re,h,fun v H1 μ1 sr1 st1 r1=>⟨μ1,ρ,S',d,ρ',S2,sr1,re.up st1,r1,h2,fun σ2 H2 μ2 sr2 st2 re2=>?_⟩⟩
   exact p σ2 H2 μ2 sr2 (st1.trans st2 sr2.nd) re2
  ·exact False.elim p
  ·exact False.elim p
 ·exact False.elim p
 ·exact False.elim p)
theorem zSO {i:Nat}{x:Str}{pos':Pos} (h:PS X (.Assign [.Name x pos'] e pos) (tAsg (tOf X.K ce) (zJk i))):PS X (.Assign [.Name x pos'] e pos) (tOfS X (sAsg ce (gN i))):=h.weak (by
 rintro E σ H ⟨μ,ρ,S,sr,re,p⟩
 unfold sAsg at p
 split at p
 ·rename_i d S' h
  have e2:gN i d ρ S'=.ok (ρ.set i (some d)) S':=rfl
  rw [e2] at p
  exact ⟨μ,ρ,S,d,S',sr,re,h,fun v H1 μ1 sr1 st1 r1=>p _ H1 μ1 sr1 st1 ((re.up st1).set r1 i)⟩
 ·exact False.elim p
 ·exact False.elim p)
noncomputable def zCK:Nat→CT→CS→CS
 | 0,_,_=>fun _ _=>.bad
 | k+1,t,b=>fun ρ S=>match t ρ S with
  | .ok true S1=>match b ρ S1 with
   | .nx ρ2 S2=>zCK k t b ρ2 S2
   | .ct ρ2 S2=>zCK k t b ρ2 S2
   | .bk ρ2 S2=>.nx ρ2 S2
   | r=>r
  | .ok false S1=>.nx ρ S1
  | .bad=>.bad
  | .er _ _=>.bad
theorem zOs {t:Expr}{ct:CT}{body:List Stmt}{cb:CS} (k:Nat) (hp:PassesOwn (model X.prog X.w) X.A X.env X.xe) (ht:PT X t (tOfT X.K ct)) (hb:PSs X body (tOfS X cb)):PS X (.While t body [] pos) (tOfS X (zCK k ct cb)):=(zOK hp ht hb).weak (by
 rintro E σ0 H0 ⟨μ0,ρ0,S0,sr0,re0,p0⟩
 refine ⟨fun m σ H=>∃ μ ρ S,SR X.K μ S H∧Step X.K μ0 μ H0 H∧RE X.K H μ ρ σ∧zIJ X μ H E (zCK m ct cb ρ S),⟨k,μ0,ρ0,S0,sr0,Step.refl _ _ _,re0,p0⟩,?_⟩
 rintro m σ H ⟨μ,ρ,S,sr,st,re,p⟩
 cases m with
 | zero=>exact False.elim p
 | succ m =>
  unfold zCK at p
  split at p
  ·rename_i S1 h
   refine ⟨μ,ρ,S,true,S1,sr,re,h,fun H1 μ1 sr1 st1=>?_⟩
   dsimp only
   rw [if_pos rfl]
   refine ⟨fun σ' H'=>∃ μ ρ S,SR X.K μ S H'∧Step X.K μ0 μ H0 H'∧RE X.K H' μ ρ σ'∧zIJ X μ H' E (zCK m ct cb ρ S),fun σ' H' h=>⟨m,qL7 m,h⟩,μ1,ρ,S1,sr1,re.up st1,?_⟩
   have st01:=st.trans st1 sr1.nd
   revert p
   cases cb ρ S1 with
   | nx ρ2 S2=>exact fun p σ2 H2 μ2 sr2 st2 re2=>⟨μ2,ρ2,S2,sr2,st01.trans st2 sr2.nd,re2,p.shift (st1.trans st2 sr2.nd)⟩
   | ct ρ2 S2=>exact fun p σ2 H2 μ2 sr2 st2 re2=>⟨μ2,ρ2,S2,sr2,st01.trans st2 sr2.nd,re2,p.shift (st1.trans st2 sr2.nd)⟩
   | bk ρ2 S2=>exact fun p σ2 H2 μ2 sr2 st2 re2=>p σ2 H2 μ2 sr2 (st1.trans st2 sr2.nd) re2
   | rt d S2=>exact fun p=>Yld.shift p st1
   | bad=>exact fun p=>p
   | er _ _=>exact fun p=>p
  ·rename_i S1 h
   refine ⟨μ,ρ,S,false,S1,sr,re,h,fun H1 μ1 sr1 st1=>?_⟩
   dsimp only
   rw [if_neg qB1]
   exact p σ H1 μ1 sr1 st1 (re.up st1)
  ·exact False.elim p
  ·exact False.elim p)
noncomputable abbrev zD5:=List (Nat × List D)
def okW (w:zD5) (S:zA0):Prop:=∀ p∈w,zA4 S p.1=some p.2
noncomputable abbrev CI:=Env1→M (List D × zD5)
structure ItOk (K:W.Frag) (J:It) (items:List D) (w:zD5) (μ0:List Addr) (H0:Hp):Prop where
 go:∀ (i:Nat) H μ S,SR K μ S H→Step K μ0 μ H0 H→okW w S→i<items.length→J.go i H
 yld:∀ (i:Nat) H μ S x H',SR K μ S H→Step K μ0 μ H0 H→okW w S→i<items.length→J.yld i H x H'→∃ d,items[i]?=some d∧SR K μ S H'∧Step K μ μ H H'∧RV K H' μ d x
 stop:∀ H μ S,SR K μ S H→Step K μ0 μ H0 H→okW w S→J.stop items.length H
inductive tOfI (K:W.Frag) (it:CI) (σ:St) (H:Hp) (R:It→Hp→Prop):Prop
 | mk (μ:List Addr) (ρ:Env1) (S:zA0) (items:List D) (w:zD5) (S':zA0) (sr:SR K μ S H) (re:RE K H μ ρ σ) (e:it ρ S=.ok (items,w) S') (y:∀ J H' μ',SR K μ' S' H'→Step K μ μ' H H'→ItOk K J items w μ' H'→R J H')
theorem PI.weak {iter:Expr}{t t':TI} (h:PI X tg iter t) (w:∀ σ H R,t' σ H R→t σ H R):PI X tg iter t':=fun pins s σ H R I q=>h pins s σ H R I (w σ H R q)
theorem Step.at {K:W.Frag}{μ μ':List Addr}{H H':Hp} (st:Step K μ μ' H H') {n:Nat}{a:Addr} (h:μ[n]?=some a):μ'[n]?=some a:=by
 obtain ⟨ν,rfl⟩:=st.ext
 rw [qA7 (qA1.mp h).1]; exact h
open Classical in
noncomputable def zAG (w:zD5) (g:G) (b:CS):List D→CS
 | []=>fun ρ S=>if okW w S then .nx ρ S else .bad
 | d::ds=>fun ρ S=>if okW w S then (match g d ρ S with
  | .ok ρ1 S1=>match b ρ1 S1 with
   | .nx ρ2 S2=>zAG w g b ds ρ2 S2
   | .ct ρ2 S2=>zAG w g b ds ρ2 S2
   | .bk ρ2 S2=>.nx ρ2 S2
   | r=>r
  | .bad=>.bad
  | .er _ _=>.bad) else .bad
noncomputable def sFor (it:CI) (g:G) (b:CS):CS:=fun ρ S=>match it ρ S with
 | .ok (items,w) S1=>zAG w g b items ρ S1
 | .bad=>.bad
 | .er _ _=>.bad
theorem zSQ {iter:Expr}{body:List Stmt}{it:CI}{g:G}{cb:CS} (hp:PassesOwn (model X.prog X.w) X.A X.env X.xe) (hc:X.calm=true) (hi:PI X tg iter (tOfI X.K it)) (hg:PG X tg (tOfG X.K g)) (hb:PSs X body (tOfS X cb))
  (hs:∀ x,foldedSetIterable iter X.env x=pure x):PS X (.For tg iter body [] pos) (tOfS X (sFor it g cb)):=(zTn hp hc hi hg hb hs).weak (by
 rintro E σ H ⟨μ,ρ,S,sr,re,p⟩
 unfold sFor at p
 split at p
 ·rename_i items w S0 h0
  refine ⟨μ,ρ,S,items,w,S0,sr,re,h0,fun J H0 μ0 sr0 st0 io=>?_⟩
  refine ⟨fun i m σ H=>i+m=items.length∧∃ μ ρ S,SR X.K μ S H∧Step X.K μ0 μ H0 H∧RE X.K H μ ρ σ∧zIJ X μ H E (zAG w g cb (items.drop i) ρ S),⟨items.length,by simp,μ0,ρ,S0,sr0,Step.refl _ _ _,re.up st0,by rw [qP5]; exact p.shift st0⟩,?_⟩
  rintro i m σ1 H1 ⟨him,μ1,ρ1,S1,sr1,st1,re1,p1⟩
  by_cases hi:i<items.length
  ·rw [qF3 hi] at p1
   unfold zAG at p1
   split at p1
   ·rename_i hw
    refine .inr ⟨io.go i H1 μ1 S1 sr1 st1 hw hi,fun σ' H'=>i+1+(m - 1)=items.length∧∃ μ ρ S,SR X.K μ S H'∧Step X.K μ0 μ H0 H'∧RE X.K H' μ ρ σ'∧zIJ X μ H' E (zAG w g cb (items.drop (i+1)) ρ S),fun σ' H' z=>⟨m - 1,by omega,z⟩,fun x H2 hy=>?_⟩
    obtain ⟨d,hd,sr2,st2,rv⟩:=io.yld i H1 μ1 S1 x H2 sr1 st1 hw hi hy
    have ed:items[i]=d:=by rw [qA6 hi] at hd; exact Option.some.inj hd
    rw [ed] at p1
    split at p1
    ·rename_i ρ3 S3 h3
     refine ⟨μ1,ρ1,S1,d,ρ3,S3,sr2,re1.up st2,rv,h3,fun σ3 H3 μ3 sr3 st3 re3=>⟨μ3,ρ3,S3,sr3,re3,?_⟩⟩
     have st23:=st2.trans st3 sr3.nd
     have st03:=st1.trans st23 sr3.nd
     revert p1
     cases cb ρ3 S3 with
     | nx ρ4 S4=>exact fun p σ4 H4 μ4 sr4 st4 re4=>⟨by omega,μ4,ρ4,S4,sr4,st03.trans st4 sr4.nd,re4,p.shift (st23.trans st4 sr4.nd)⟩
     | ct ρ4 S4=>exact fun p σ4 H4 μ4 sr4 st4 re4=>⟨by omega,μ4,ρ4,S4,sr4,st03.trans st4 sr4.nd,re4,p.shift (st23.trans st4 sr4.nd)⟩
     | bk ρ4 S4=>exact fun p σ4 H4 μ4 sr4 st4 re4=>p σ4 H4 μ4 sr4 (st23.trans st4 sr4.nd) re4
     | rt d S4=>exact fun p=>Yld.shift p st23
     | bad=>exact fun p=>p
     | er _ _=>exact fun p=>p
    ·exact False.elim p1
    ·exact False.elim p1
   ·exact False.elim p1
  ·have e:i=items.length:=by omega
   subst e
   rw [qM0] at p1
   unfold zAG at p1
   split at p1
   ·rename_i hw
    exact .inl ⟨io.stop H1 μ1 S1 sr1 st1 hw,p1 σ1 H1 μ1 sr1 (Step.refl _ _ _) re1⟩
   ·exact False.elim p1
 ·exact False.elim p
 ·exact False.elim p)
end
open PySem PySem.Spec PyProof.Rows
section
variable {X:Cx}{tg e:Expr}{ce:C}{pos:Pos}
noncomputable def iSeq (c:C):CI:=fun ρ=>bnd (c ρ) fun x S=>match x with
 | .tup xs=>.ok (xs,[]) S
 | .lst n=>match zA4 S n with
  | some xs=>.ok (xs,[(n,xs)]) S
  | none=>.bad
 | _=>.bad
theorem zUq {K:W.Frag}{H0:Hp}{μ0:List Addr}{a:Addr}{xs:List D}{vs:List V} (q:SqT K H0 a vs) (r:RVs K H0 μ0 xs vs):ItOk K (Itt K a) xs [] μ0 H0 where
 go:=fun i H μ S sr st _ hi=>by
  obtain ⟨v,e,_⟩:=r.get (qA6 hi)
  exact ⟨vs,v,st.tk.t _ _ q,e⟩
 yld:=fun i H μ S x H' sr st _ hi y=>by
  obtain ⟨rfl,y⟩:=y
  obtain ⟨v,e,rv⟩:=r.get (qA6 hi)
  have:=y vs (st.tk.t _ _ q)
  rw [e] at this; cases this
  exact ⟨xs[i],qA6 hi,sr,Step.refl _ _ _,RV.up st.tk st.ext _ _ rv⟩
 stop:=fun H μ S sr st _=>⟨vs,st.tk.t _ _ q,by rw [r.len]; exact qB0 _⟩
theorem zUr {K:W.Frag}{H0:Hp}{μ0:List Addr}{a:Addr}{n:Nat}{xs:List D} (hm:μ0[n]?=some a):ItOk K (Itl K a) xs [(n,xs)] μ0 H0 where
 go:=fun i H μ S sr st w hi=>by
  obtain ⟨vs,q,r⟩:=sr.sq (st.at hm) (w (n,xs) (by simp))
  obtain ⟨v,e,_⟩:=r.get (qA6 hi)
  exact ⟨vs,v,q,e⟩
 yld:=fun i H μ S x H' sr st w hi y=>by
  obtain ⟨rfl,y⟩:=y
  obtain ⟨vs,q,r⟩:=sr.sq (st.at hm) (w (n,xs) (by simp))
  obtain ⟨v,e,rv⟩:=r.get (qA6 hi)
  have:=y vs q
  rw [e] at this; cases this
  exact ⟨xs[i],qA6 hi,sr,Step.refl _ _ _,rv⟩
 stop:=fun H μ S sr st w=>by
  obtain ⟨vs,q,r⟩:=sr.sq (st.at hm) (w (n,xs) (by simp))
  exact ⟨vs,q,by rw [r.len]; exact qB0 _⟩
theorem zTq {tl:TE} (hl:PE X e tl):PI X tg e (fun σ H R=>tl σ H fun x H1=>∃ a,x=.ref a∧((∃ xs,SqL X.K H1 a xs)∧R (Itl X.K a) H1∨(∃ xs,SqT X.K H1 a xs)∧R (Itt X.K a) H1
  )):=by
 intro pins s σ H R I h
 refine thn (hl pins s σ H _ I h) fun v s1 ⟨x,H1,I1,r1,q1⟩=>?_
 obtain ⟨a,e,q⟩:=q1
 subst e
 cases r1
 rcases q with ⟨⟨xs,hq⟩,q⟩ | ⟨⟨xs,hq⟩,q⟩
 ·obtain ⟨its,rv,p,hz⟩:=I1.list hq
  refine wpAny_pyIter_list p.isList ?_
  refine ⟨s1.heap.objs.size,[s1.heap.objs.size],_,_,H1,rfl,I1.kept (t':=s1.toks) fun b o e=>qA5 _ e,zM2 a _,⟨_,qB4 _ rfl,rfl,rfl⟩,fun b hb=>?_,q⟩
  have e:b=s1.heap.objs.size:=by simpa using hb
  subst e
  exact I1.fpOk (qB0 _) (I1.hok.fresh (qB0 _))
 ·obtain ⟨its,rv,p,hz⟩:=I1.tuple hq
  refine wpAny_pyIter_tuple (show s1.heap.IsTuple a its.toArray from p) ?_
  refine ⟨s1.heap.objs.size,[s1.heap.objs.size],_,_,H1,rfl,I1.kept (t':=s1.toks) fun b o e=>qA5 _ e,zKO a _,⟨_,qB4 _ rfl,rfl,rfl⟩,fun b hb=>?_,q⟩
  have e:b=s1.heap.objs.size:=by simpa using hb
  subst e
  exact I1.fpOk (qB0 _) (I1.hok.fresh (qB0 _))
theorem zSX (he:PE X e (tOf X.K ce)):PI X tg e (tOfI X.K (iSeq ce)):=(zTq he).weak (by
 rintro σ H R ⟨μ,ρ,S,items,w,S',sr,re,e,y⟩
 obtain ⟨x,S1,e1,e⟩:=zA6 e
 refine ⟨μ,ρ,S,x,S1,sr,re,e1,fun v H1 μ1 sr1 st1 r1=>?_⟩
 try dsimp only at e
 split at e
 ·rename_i xs
  cases e
  have r1':=r1
  unfold RV at r1'; obtain ⟨a,vs,rfl,q,rr⟩:=r1'
  exact ⟨a,rfl,.inr ⟨⟨vs,SqT.of q⟩,y _ H1 μ1 sr1 st1 (zUq (SqT.of q) rr)⟩⟩
 ·rename_i n
  split at e
  ·rename_i xs hx
   cases e
   unfold RV at r1; obtain ⟨a,rfl,hm⟩:=r1
   obtain ⟨vs,q,rr⟩:=sr1.sq hm hx
   exact ⟨a,rfl,.inl ⟨⟨vs,q⟩,y _ H1 μ1 sr1 st1 (zUr hm)⟩⟩
  ·cases e
 ·cases e)
noncomputable def upD (lo:Int) (n:Nat):List D:=(List.range n).map fun k=>D.int (lo+(k:Nat))
theorem zQ6 {K:W.Frag}{H0:Hp}{μ0:List Addr}{lo:Int}{n:Nat}:ItOk K (Itr lo n) (upD lo n) [] μ0 H0 where
 go:=fun i H μ S sr st _ hi=>by
  unfold upD at hi; simp at hi; exact hi
 yld:=fun i H μ S x H' sr st _ hi y=>by
  obtain ⟨rfl,rfl⟩:=y
  have hi':i<n:=by unfold upD at hi; simp at hi; exact hi
  exact ⟨.int (lo+i),by unfold upD; rw [qB7,qI4 hi']; rfl,sr,Step.refl _ _ _,zB2⟩
 stop:=fun H μ S sr st _=>by
  show n≤(upD lo n).length
  unfold upD; simp
noncomputable def zBE (a:CA):CI:=fun ρ=>bnd (a ρ) fun xs S=>match xs with
 | [.int j]=>if -4611686018427387904≤j∧j<4611686018427387904 then .ok (upD 0 j.toNat,[]) S else .bad
 | _=>.bad
noncomputable def zFi (a:CA):CI:=fun ρ=>bnd (a ρ) fun xs S=>match xs with
 | [.int i,.int j]=>if -4611686018427387904≤i∧i<4611686018427387904∧-4611686018427387904≤j∧j<4611686018427387904 then .ok (upD i (j - i).toNat,[]) S else .bad
 | _=>.bad
variable {a b:Expr}{ca:CA}
theorem zMi {p:Pos} (h:PI X tg (.Call (.Name "range" p) [a] [] pos) (zUy (tOfA X.K ca))):PI X tg (.Call (.Name "range" p) [a] [] pos) (tOfI X.K (zBE ca)):=h.weak (by
 rintro σ H R ⟨μ,ρ,S,items,w,S',sr,re,e,y⟩
 obtain ⟨xs,S1,e1,e⟩:=zA6 e
 refine ⟨μ,ρ,S,xs,S1,sr,re,e1,fun vs H1 μ1 sr1 st1 r1=>?_⟩
 try dsimp only at e
 split at e
 ·rename_i j
  split at e
  ·rename_i hl
   cases e
   obtain ⟨v,rfl,r2⟩:=r1.one
   unfold RV at r2; subst r2
   exact ⟨j,rfl,hl.1,hl.2,y _ H1 μ1 sr1 st1 zQ6⟩
  ·cases e
 ·cases e)
theorem zMh {p:Pos} (h:PI X tg (.Call (.Name "range" p) [a,b] [] pos) (zUx (tOfA X.K ca))):PI X tg (.Call (.Name "range" p) [a,b] [] pos) (tOfI X.K (zFi ca)):=h.weak (by
 rintro σ H R ⟨μ,ρ,S,items,w,S',sr,re,e,y⟩
 obtain ⟨xs,S1,e1,e⟩:=zA6 e
 refine ⟨μ,ρ,S,xs,S1,sr,re,e1,fun vs H1 μ1 sr1 st1 r1=>?_⟩
 try dsimp only at e
 split at e
 ·rename_i i j
  split at e
  ·rename_i hl
   cases e
   obtain ⟨v,u,rfl,r2,r3⟩:=r1.two
   unfold RV at r2 r3; subst r2 r3
   exact ⟨i,j,rfl,hl,y _ H1 μ1 sr1 st1 zQ6⟩
  ·cases e
 ·cases e)
theorem zLX {α β:Type}{xs:List α}{ys:List β}{i:Nat} (h:i<(xs.zip ys).length):∃ x y,xs[i]?=some x∧ys[i]?=some y∧(xs.zip ys)[i]?=some (x,y):=by
 rw [qP0] at h
 have h1:i<xs.length:=by omega
 have h2:i<ys.length:=by omega
 exact ⟨xs[i],ys[i],qA6 h1,qA6 h2,by rw [qF4]; exact ⟨qA6 h1,qA6 h2⟩⟩
noncomputable def zipD (xs ys:List D):List D:=(xs.zip ys).map fun p=>.tup [p.1,p.2]
noncomputable def zsAt (S:zA0):D→Option (List D)
 | .tup xs=>some xs
 | .lst n=>zA4 S n
 | _=>none
noncomputable def zCO (x:D) (xs:List D):zD5:=match x with
 | .lst n=>[(n,xs)]
 | _=>[]
theorem zPW {K:W.Frag}{μ:List Addr}{S:zA0}{H:Hp}{x:D}{v:V}{xs:List D} (sr:SR K μ S H) (r:RV K H μ x v) (ho:zsAt S x=some xs):∃ a b,v=.ref a∧(∃ vs,SqX b K H a vs) ∧
  ∀ H1 μ1 S1,SR K μ1 S1 H1→Step K μ μ1 H H1→okW (zCO x xs) S1→∃ vs,SqX b K H1 a vs∧RVs K H1 μ1 xs vs:=by
 unfold zsAt at ho
 split at ho
 ·rename_i ys
  cases ho
  unfold RV at r; obtain ⟨a,vs,rfl,q,rr⟩:=r
  exact ⟨a,true,rfl,⟨vs,SqT.of q⟩,fun H1 μ1 S1 sr1 st1 _=>⟨vs,st1.tk.t _ _ (SqT.of q),RVs.up st1.tk st1.ext _ _ rr⟩⟩
 ·rename_i n
  unfold RV at r; obtain ⟨a,rfl,hm⟩:=r
  obtain ⟨vs,q,rr⟩:=sr.sq hm ho
  exact ⟨a,false,rfl,⟨vs,q⟩,fun H1 μ1 S1 sr1 st1 w=>sr1.sq (st1.at hm) (w (n,xs) (by simp [zCO]))⟩
 ·cases ho
theorem zEd {w1 w2:zD5}{S:zA0}:okW (w1++w2) S↔okW w1 S∧okW w2 S:=by
 unfold okW
 simp only [qB3]
 exact ⟨fun h=>⟨fun p hp=>h p (.inl hp),fun p hp=>h p (.inr hp)⟩,fun h p hp=>hp.elim (h.1 p) (h.2 p)⟩
theorem zRX {K:W.Frag}{H0:Hp}{μ0:List Addr}{a b:Addr}{b1 b2:Bool}{w1 w2:zD5}{xs ys:List D}
  (g1:∀ H1 μ1 S1,SR K μ1 S1 H1→Step K μ0 μ1 H0 H1→okW w1 S1→∃ vs,SqX b1 K H1 a vs∧RVs K H1 μ1 xs vs) (g2:∀ H1 μ1 S1,SR K μ1 S1 H1→Step K μ0 μ1 H0 H1→okW w2 S1→∃ vs,SqX b2 K H1 b vs∧RVs K H1 μ1 ys vs) :
  ItOk K (ItzX b1 b2 K a b) (zipD xs ys) (w1++w2) μ0 H0 where
 go:=fun i H μ S sr st w hi=>by
  obtain ⟨vs,q,r⟩:=g1 H μ S sr st (zEd.mp w).1
  obtain ⟨us,q2,r2⟩:=g2 H μ S sr st (zEd.mp w).2
  obtain ⟨x,y,e1,e2,_⟩:=zLX (xs:=xs) (ys:=ys) (i:=i) (by unfold zipD at hi; simpa using hi)
  obtain ⟨v,g1,_⟩:=r.get e1
  obtain ⟨u,g2,_⟩:=r2.get e2
  exact ⟨vs,us,v,u,q,q2,g1,g2⟩
 yld:=fun i H μ S x H' sr st w hi y=>by
  obtain ⟨T,hT,rfl,y⟩:=y
  obtain ⟨vs,q,r⟩:=g1 H μ S sr st (zEd.mp w).1
  obtain ⟨us,q2,r2⟩:=g2 H μ S sr st (zEd.mp w).2
  obtain ⟨x,y',e1,e2,e3⟩:=zLX (xs:=xs) (ys:=ys) (i:=i) (by unfold zipD at hi; simpa using hi)
  obtain ⟨v,g1,rv⟩:=r.get e1
  obtain ⟨u,g2,ru⟩:=r2.get e2
  have:=y vs us v u q q2 g1 g2
  subst this
  obtain ⟨s1,s2,s3⟩:=zGO (p:=T) sr hT (.cons rv (.cons ru .nil))
  exact ⟨.tup [x,y'],by unfold zipD; rw [qB7,e3]; rfl,s1,s2,s3⟩
 stop:=fun H μ S sr st w=>by
  obtain ⟨vs,q,r⟩:=g1 H μ S sr st (zEd.mp w).1
  obtain ⟨us,q2,r2⟩:=g2 H μ S sr st (zEd.mp w).2
  exact ⟨vs,us,q,q2,by unfold zipD; rw [qA2,qP0,r.len,r2.len]⟩
noncomputable def zPt (a:CA):CI:=fun ρ=>bnd (a ρ) fun xs S=>match xs with
 | [x,y]=>match zsAt S x,zsAt S y with
  | some ys,some zs=>.ok (zipD ys zs,zCO x ys++zCO y zs) S
  | _,_=>.bad
 | _=>.bad
theorem zSW {elts:List Expr}{k:Nat}{tpos p:Pos} (h:PI X (.Tuple elts k tpos) (.Call (.Name "zip" p) [a,b] [] pos) (zUw X.K (tOfA X.K ca))):PI X (.Tuple elts k tpos) (.Call (.Name "zip" p) [a,b] [] pos) (tOfI X.K (zPt ca)):=h.weak (by
 rintro σ H R ⟨μ,ρ,S,items,w,S',sr,re,e,y⟩
 obtain ⟨xs,S1,e1,e⟩:=zA6 e
 refine ⟨μ,ρ,S,xs,S1,sr,re,e1,fun vs H1 μ1 sr1 st1 r1=>?_⟩
 try dsimp only at e
 split at e
 ·rename_i x1 x2
  split at e
  ·rename_i ys zs h1 h2
   cases e
   obtain ⟨v,u,rfl,r2,r3⟩:=r1.two
   obtain ⟨a,b1,rfl,q1,g1⟩:=zPW sr1 r2 h1
   obtain ⟨b,b2,rfl,q2,g2⟩:=zPW sr1 r3 h2
   exact ⟨a,b,b1,b2,rfl,q1,q2,y _ H1 μ1 sr1 st1 (zRX g1 g2)⟩
  ·cases e
 ·cases e)
noncomputable def zBI (xs:List D):List D:=((List.range xs.length).zip xs).map fun p=>.tup [.int (p.1:Nat),p.2]
theorem zKw {xs:List D}{i:Nat} (h:i<xs.length):(zBI xs)[i]?=some (.tup [.int (i:Nat),xs[i]]):=by
 unfold zBI
 rw [qB7]
 have:((List.range xs.length).zip xs)[i]?=some (i,xs[i]):=by
  rw [qF4]
  exact ⟨qI4 h,qA6 h⟩
 rw [this]; rfl
theorem zDh (xs:List D):(zBI xs).length=xs.length:=by unfold zBI; simp
theorem zPj {K:W.Frag}{H0:Hp}{μ0:List Addr}{a:Addr}{xs:List D}{vs:List V} (q:SqT K H0 a vs) (r:RVs K H0 μ0 xs vs):ItOk K (IteX true K a) (zBI xs) [] μ0 H0 where
 go:=fun i H μ S sr st _ hi=>by
  rw [zDh] at hi
  obtain ⟨v,e,_⟩:=r.get (qA6 hi)
  exact ⟨vs,v,st.tk.t _ _ q,e⟩
 yld:=fun i H μ S x H' sr st _ hi y=>by
  rw [zDh] at hi
  obtain ⟨T,hT,rfl,y⟩:=y
  obtain ⟨v,e,rv⟩:=r.get (qA6 hi)
  have:=y vs v (st.tk.t _ _ q) e
  subst this
  obtain ⟨s1,s2,s3⟩:=zGO (p:=T) sr hT (.cons zB2 (.cons (RV.up st.tk st.ext _ _ rv) .nil))
  exact ⟨_,zKw hi,s1,s2,s3⟩
 stop:=fun H μ S sr st _=>⟨vs,st.tk.t _ _ q,by rw [zDh,r.len]⟩
theorem zPk {K:W.Frag}{H0:Hp}{μ0:List Addr}{a:Addr}{n:Nat}{xs:List D} (hm:μ0[n]?=some a):ItOk K (IteX false K a) (zBI xs) [(n,xs)] μ0 H0 where
 go:=fun i H μ S sr st w hi=>by
  rw [zDh] at hi
  obtain ⟨vs,q,r⟩:=sr.sq (st.at hm) (w (n,xs) (by simp))
  obtain ⟨v,e,_⟩:=r.get (qA6 hi)
  exact ⟨vs,v,q,e⟩
 yld:=fun i H μ S x H' sr st w hi y=>by
  rw [zDh] at hi
  obtain ⟨T,hT,rfl,y⟩:=y
  obtain ⟨vs,q,r⟩:=sr.sq (st.at hm) (w (n,xs) (by simp))
  obtain ⟨v,e,rv⟩:=r.get (qA6 hi)
  have:=y vs v q e
  subst this
  obtain ⟨s1,s2,s3⟩:=zGO (p:=T) sr hT (.cons zB2 (.cons rv .nil))
  exact ⟨_,zKw hi,s1,s2,s3⟩
 stop:=fun H μ S sr st w=>by
  obtain ⟨vs,q,r⟩:=sr.sq (st.at hm) (w (n,xs) (by simp))
  exact ⟨vs,q,by rw [zDh,r.len]⟩
noncomputable def zEz (a:CA):CI:=fun ρ=>bnd (a ρ) fun xs S=>match xs with
 | [.tup ys]=>.ok (zBI ys,[]) S
 | [.lst n]=>match zA4 S n with
  | some ys=>.ok (zBI ys,[(n,ys)]) S
  | none=>.bad
 | _=>.bad
theorem zQL {elts:List Expr}{k:Nat}{tpos p:Pos} (h:PI X (.Tuple elts k tpos) (.Call (.Name "enumerate" p) [a] [] pos) (zQ9 X.K (tOfA X.K ca))):PI X (.Tuple elts k tpos) (.Call (.Name "enumerate" p) [a] [] pos) (tOfI X.K (zEz ca)):=h.weak (by
 rintro σ H R ⟨μ,ρ,S,items,w,S',sr,re,e,y⟩
 obtain ⟨xs,S1,e1,e⟩:=zA6 e
 refine ⟨μ,ρ,S,xs,S1,sr,re,e1,fun vs H1 μ1 sr1 st1 r1=>?_⟩
 try dsimp only at e
 split at e
 ·rename_i ys
  cases e
  obtain ⟨v,rfl,r2⟩:=r1.one
  unfold RV at r2
  obtain ⟨a,vs,rfl,q,rr⟩:=r2
  exact ⟨a,rfl,.inl ⟨⟨vs,SqT.of q⟩,y _ H1 μ1 sr1 st1 (zPj (SqT.of q) rr)⟩⟩
 ·rename_i n
  split at e
  ·rename_i ys ho
   cases e
   obtain ⟨v,rfl,r2⟩:=r1.one
   unfold RV at r2
   obtain ⟨a,rfl,hm⟩:=r2
   obtain ⟨vs,q,_⟩:=sr1.sq hm ho
   exact ⟨a,rfl,.inr ⟨⟨vs,q⟩,y _ H1 μ1 sr1 st1 (zPk hm)⟩⟩
  ·cases e
 ·cases e)
noncomputable def stE (k:Nat) (js:List Nat) (ρ:Env1):Env1:=qJ8 k none++js.map fun j=>(ρ[j]?).getD none
theorem RE.comp {K:W.Frag}{H:Hp}{μ:List Addr}{ρ:Env1}{σ:St} (re:RE K H μ ρ σ) (k:Nat) (js:List Nat):RE K H μ (stE k js ρ) (stC k js σ):=by
 refine ⟨by unfold stE stC; simp,fun i d e=>?_⟩
 unfold stE at e
 unfold stC
 by_cases hi:i<k
 ·rw [qA7 (by simpa using hi),qI6] at e
  simp [hi] at e
 ·rw [qA0 (by simpa using hi),qH7,qB7] at e
  rw [qA0 (by simpa using hi),qH7,qB7]
  cases q:js[i - k]? with
  | none=>rw [q] at e; simp at e
  | some j =>
   rw [q] at e
   simp only [qO9,Option.some.injEq] at e
   cases q2:ρ[j]? with
   | none=>rw [q2] at e; simp at e
   | some z =>
    rw [q2] at e
    simp at e
    subst e
    obtain ⟨v,e1,r1⟩:=re.2 j d q2
    exact ⟨v,by simp [e1],r1⟩
inductive Tgt where
 | one | many (k:Nat)
noncomputable def zBd:Env1→Nat→List D→Env1
 | ρ,_,[]=>ρ
 | ρ,s,x::xs=>zBd (ρ.set s (some x)) (s+1) xs
noncomputable def zH9 (t:Tgt) (d:D) (ρ:Env1):Option Env1:=match t with
 | .one=>some (ρ.set 0 (some d))
 | .many k=>match d with
  | .tup xs=>if xs.length=k then some (zBd ρ 0 xs) else none
  | _=>none
noncomputable def zKs:Nat→Nat→TGs
 | _,0=>gNil
 | s,n+1=>zUD (zJk s) (zKs (s+1) n)
noncomputable def tgtK:Tgt→Nat
 | .one=>1
 | .many k=>k
noncomputable def tOfT' (K:W.Frag):Tgt→TG
 | .one=>zJk 0
 | .many k=>gTup K k (zKs 0 k)
theorem zJW {k:Nat}{js:List Nat}{σ σ1:St} (h:zII (stC k js σ) σ1) {i:Nat} (hi:i<k) (v:V):zII (stC k js σ) (σ1.set i (some v)):=by
 refine ⟨by rw [qO8]; exact h.1,fun j u e=>?_⟩
 by_cases hj:i=j
 ·subst hj
  obtain ⟨_,h1,_⟩:=zMd e
  omega
 ·rw [qE8 hj]
  exact h.2 j u e
theorem zHn (σ:St):zII σ σ:=⟨rfl,fun _ _ h=>h⟩
theorem zKi {K:W.Frag}{H:Hp}{μ:List Addr}{k:Nat}{js:List Nat}{σ:St}{Q:St→Hp→Prop}:∀ {n s:Nat}{xs:List D}{vs:List V}{ρ1:Env1}{σ1:St},RVs K H μ xs vs→xs.length=n→s+n≤k→RE K H μ ρ1 σ1→zII (stC k js σ) σ1→(∀ σ4,RE K H μ (zBd ρ1 s xs) σ4→zII (stC k js σ) σ4→Q σ4 H)→zKs s n vs σ1 H Q
 | 0,s,xs,vs,ρ1,σ1,r,hl,hk,re,w,h=>by
  have:xs=[]:=qE6.mp hl
  subst this
  exact ⟨r.nil_inv,h σ1 re w⟩
 | n+1,s,[],vs,ρ1,σ1,r,hl,hk,re,w,h=>by simp at hl
 | n+1,s,x::xs,vs,ρ1,σ1,r,hl,hk,re,w,h=>by
  obtain ⟨v,us,rfl,r1,r2⟩:=r.cons_inv
  exact ⟨v,us,rfl,zKi r2 (by simpa using hl) (by omega) (re.set r1 s) (zJW w (by omega) v) h⟩
theorem zSj {K:W.Frag}{H:Hp}{μ:List Addr}{k:Nat}{js:List Nat}{σ:St}{ρ ρ4:Env1}{t:Tgt}{d:D}{x:V}{Q:St→Hp→Prop} (ht:tgtK t≤k) (re:RE K H μ (stE k js ρ) (stC k js σ)) (rv:RV K H μ d x) (e:zH9 t d (stE k js ρ)=some ρ4) (h:∀ σ4,RE K H μ ρ4 σ4→zII (stC k js σ) σ4→Q σ4 H) (h1:1≤k):tOfT' K t x (stC k js σ) H Q:=by
 cases t with
 | one =>
  cases e
  exact h _ (re.set rv 0) (zJW (zHn _) h1 x)
 | many n =>
  unfold zH9 at e
  dsimp only at e
  split at e
  ·rename_i xs
   split at e
   ·rename_i hl
    cases e
    unfold RV at rv
    obtain ⟨p,vs,rfl,q,rr⟩:=rv
    exact ⟨p,vs,rfl,SqT.of q,by rw [← rr.len]; exact hl,zKi rr hl (by have:n≤k:=ht; omega) re (zHn _) h⟩
   ·cases e
  ·cases e
open Classical in
noncomputable def zAo (w:zD5) (t:Tgt) (tc:CT) (c:C) (ρ0:Env1):List D→M (List D)
 | []=>fun S=>if okW w S then .ok [] S else .bad
 | d::ds=>fun S=>if okW w S then (match zH9 t d ρ0 with
  | some ρ1=>bnd (tc ρ1) (fun k=>if k then bnd (c ρ1) fun y=>bnd (zAo w t tc c ρ0 ds) fun ys=>ret (y::ys) else zAo w t tc c ρ0 ds) S
  | none=>.bad) else .bad
noncomputable def zBJ (it:CI) (k:Nat) (js:List Nat) (t:Tgt) (tc:CT) (c:C):C:=fun ρ=>bnd (it ρ) fun p S=>if p.1.length<lim then
  bnd (zAo p.2 t tc c (stE k js ρ) p.1) (fun ys S'=>.ok (.lst S'.length) (S'++[.lst ys])) S
 else .bad
theorem SR.acc {K:W.Frag}{H:Hp}{μ:List Addr}{S:zA0}{A:Addr}{us ws:List V} (sr:SR K μ S H) (hA:A∉μ) (h:H A=some (.lst us)):SR K μ S (upd H A (.lst ws)) :=
 ⟨sr.len,sr.nd,fun n a o e1 e2=>(sr.obj n a o e1 e2).up (zK2 h) ⟨[],by simp⟩ (zAa fun z=>hA (z▸qB5 e1))⟩
theorem Step.acc {K:W.Frag}{H0 H:Hp}{μ0 μ:List Addr}{A:Addr}{us ws:List V} (st:Step K μ0 μ H0 H) (h0:H0 A=none) (h:H A=some (.lst us)):Step K μ0 μ H0 (upd H A (.lst ws)) :=
 ⟨st.pre,fun b o hb e=>by rw [zAa (zAD e h0)]; exact st.fr b o hb e,st.tk.trans (zK2 h)⟩
theorem SR.adopt {K:W.Frag}{H:Hp}{μ:List Addr}{S:zA0}{A:Addr}{us:List V}{acc:List D} (sr:SR K μ S H) (hA:A∉μ) (h:H A=some (.lst us)) (r:RVs K H μ acc us):SR K (μ++[A]) (S++[.lst acc]) H:=by
 refine ⟨by simp [sr.len],?_,fun n a u e1 e2=>?_⟩
 ·rw [qF5]
  refine ⟨sr.nd,by simp,fun a ha b hb=>?_⟩
  simp at hb; subst hb
  exact fun z=>hA (z▸ha)
 ·by_cases hn:n<μ.length
  ·rw [qA7 hn] at e1
   rw [qA7 (by rw [← sr.len]; exact hn)] at e2
   exact (sr.obj n a u e1 e2).up (TF.refl _ _) ⟨[A],rfl⟩ rfl
  ·rw [qA0 (by omega)] at e1
   rw [qA0 (by rw [← sr.len]; omega)] at e2
   have h1:n - μ.length=0:=by
    have:=(qA1.mp e1).1
    simp at this; omega
   rw [h1] at e1
   rw [← sr.len,h1] at e2
   simp at e1 e2
   subst e1 e2
   exact ⟨us,h,RVs.up (TF.refl _ _) ⟨[A],rfl⟩ _ _ r⟩
theorem Step.adopt {K:W.Frag}{H0 H:Hp}{μ0 μ:List Addr}{A:Addr} (st:Step K μ0 μ H0 H) (h0:H0 A=none):Step K μ0 (μ++[A]) H0 H:=by
 obtain ⟨ν,e,n⟩:=st.pre
 refine ⟨⟨ν++[A],by rw [e,qB8],fun b hb=>?_⟩,st.fr,st.tk⟩
 rcases qB3.mp hb with h | h
 ·exact n b h
 ·simp at h; subst h; exact h0
theorem Step.notIn {K:W.Frag}{H H':Hp}{μ μ':List Addr}{A:Addr}{o:HO} (st:Step K μ μ' H H') (hA:A∉μ) (h:H A=some o):A∉μ':=fun z=>by
 obtain ⟨ν,rfl,n⟩:=st.pre
 rcases qB3.mp z with q | q
 ·exact hA q
 ·rw [n A q] at h; cases h
inductive zXv (K:W.Frag) (items:List D) (w:zD5) (t:Tgt) (tc:CT) (c:C) (ρ0:Env1) (μ0:List Addr) (H0:Hp) (A:Addr) (S1:zA0) (ys:List D) (i m:Nat) (us:List V) (H2:Hp):Prop
 | mk (him:i+m=items.length) (hus:us.length≤i) (μ2:List Addr) (S2:zA0) (acc rest:List D) (sr:SR K μ2 S2 H2) (st:Step K μ0 μ2 H0 H2) (nA:A∉μ2) (hA:H2 A=some (.lst us)) (ra:RVs K H2 μ2 acc us) (el:zAo w t tc c ρ0 (items.drop i) S2=.ok rest S1) (eys:acc++rest=ys)
theorem zMJ {σ:St}{H:Hp}{Q:VK}{it:CI}{k:Nat}{js:List Nat}{t:Tgt}{tc:CT}{c:C} (ht:tgtK t≤k) (h1:1≤k) (h:tOf X.K (zBJ it k js t tc c) σ H Q):zQz (tOfI X.K it) k js (tOfT' X.K t) (tOfT X.K tc) (tOf X.K c) σ H Q:=by
 obtain ⟨μ,ρ,S,d,S',sr,re,e,y⟩:=h
 obtain ⟨⟨items,w⟩,S0,e0,f0⟩:=zA6 e
 dsimp only at f0
 split at f0
 ·rename_i hlim
  obtain ⟨ys,S1,e1,f1⟩:=zA6 f0
  cases f1
  refine ⟨μ,ρ,S,items,w,S0,sr,re,e0,fun J H0 μ0 sr0 st0 io A hA=>?_⟩
  have reC:=(re.up st0).comp k js
  obtain ⟨srA,stA⟩:=sr0.other (o:=.lst []) hA
  have nA:A∉μ0:=sr0.out hA
  refine ⟨zXv X.K items w t tc c (stE k js ρ) μ0 H0 A S1 ys,
   ⟨items.length,⟨by simp,qE1 _,μ0,S0,[],ys,srA,stA,nA,zAb,RVs.nil,by rw [qP5]; exact e1,rfl⟩⟩,?_⟩
  rintro i m us H2 ⟨him,hus,μ2,S2,acc,rest,sr2,st2,nA2,hA2,racc,el,eys⟩
  refine And.intro hA2 ?_
  by_cases hi:i<items.length
  ·rw [qF3 hi] at el
   unfold zAo at el
   split at el
   ·rename_i hw
    refine .inr ⟨io.go i H2 μ2 S2 sr2 st2 hw hi,zGe (by omega),fun x H3 hy=>?_⟩
    obtain ⟨d,hd,sr3,st3,rv⟩:=io.yld i H2 μ2 S2 x H3 sr2 st2 hw hi hy
    have ed:items[i]=d:=by rw [qA6 hi] at hd; exact Option.some.inj hd
    rw [ed] at el
    have hA3:H3 A=some (.lst us):=st3.fr A _ nA2 hA2
    have st03:=st2.trans st3 sr3.nd
    split at el
    ·rename_i ρ4 h4
     refine zSj ht (reC.up st03) rv h4 (fun σ4 re4 wk=>⟨wk,?_⟩) h1
     obtain ⟨kb,S3,e3,f3⟩:=zA6 el
     refine ⟨μ2,ρ4,S2,kb,S3,sr3,re4,e3,fun H5 μ5 sr5 st5=>?_⟩
     have hA5:H5 A=some (.lst us):=st5.fr A _ nA2 hA3
     have nA5:=st5.notIn nA2 hA3
     have st05:=st03.trans st5 sr5.nd
     have st25:=st3.trans st5 sr5.nd
     cases kb with
     | true =>
      rw [if_pos rfl] at f3 ⊢
      obtain ⟨z,S4,e4,f4⟩:=zA6 f3
      obtain ⟨zs,S5,e5,f5⟩:=zA6 f4
      obtain ⟨rfl,rfl⟩:=zAl f5
      refine ⟨μ5,ρ4,S3,z,S4,sr5,re4.up st5,e4,fun v H6 μ6 sr6 st6 rv6=>?_⟩
      have hA6:H6 A=some (.lst us):=st6.fr A _ nA5 hA5
      have nA6:=st6.notIn nA5 hA5
      have st26:=st25.trans st6 sr6.nd
      have tku:TF X.K H6 (upd H6 A (.lst (us++[v]))):=zK2 hA6
      refine ⟨hA6,m - 1,by omega,⟨by omega,by rw [qB2]; show us.length+1≤i+1; omega,μ6,S4,acc++[z],zs,sr6.acc nA6 hA6,(st05.trans st6 sr6.nd).acc hA hA6,nA6,zAb,?_,e5,by rw [qB8]; exact eys⟩⟩
      exact RVs.up tku ⟨[],by simp⟩ _ _ ((RVs.up st26.tk st26.ext _ _ racc).append (.cons rv6 .nil))
     | false =>
      rw [if_neg qB1] at f3 ⊢
      exact ⟨m - 1,by omega,⟨by omega,by omega,μ5,S3,acc,rest,sr5,st05,nA5,hA5,RVs.up st25.tk st25.ext _ _ racc,f3,eys⟩⟩
    ·cases el
   ·cases el
  ·have ei:i=items.length:=by omega
   subst ei
   rw [qM0] at el
   unfold zAo at el
   split at el
   ·rename_i hw
    cases el
    rw [qH9] at eys
    subst eys
    refine .inl ⟨io.stop H2 μ2 _ sr2 st2 hw,?_⟩
    have hA0:H A=none:=by
     cases q:H A with
     | none=>rfl
     | some o =>
      by_cases hm:A∈μ
      ·exact absurd (st0.mem hm) nA
      ·rw [st0.fr A o hm q] at hA; cases hA
    have sr3:=sr2.adopt nA2 hA2 racc
    refine y (.ref A) H2 (μ2++[A]) sr3 ((st0.trans st2 sr2.nd).adopt hA0) ?_
    unfold RV
    exact ⟨A,rfl,by rw [← sr2.len,qA0 (qB0 _),qK1]; rfl⟩
   ·cases el
 ·cases f0
end
open PySem PySem.Spec PyProof.Rows
structure Sc where
 N:List Str
 names:List (Str × NameKind)
 fn:Option Str
noncomputable def bltL:List Str:=["len","range","list","tuple","min","max","zip","isinstance","all","any","int","bool","enumerate","str","sorted","dict","sum","repr","set","abs"]
structure MgOk (ar:Str→Option Nat) (mg:Str→Option Value):Prop where
 b:∀ y:Str,y∈bltL→ar y=none→mg y=none
structure XOk (X:Cx) (sc:Sc) (ar:Str→Option Nat) (cl:Str→List D→M D) (k:Nat):Prop where
 calm:X.calm=true
 N:X.N=sc.N
 nd:sc.N.Nodup
 gl:∀ x,sc.names.lookup x=some .globalImplicit→Gl X x
 loc:∀ x,sc.names.lookup x=some .local→X.env.scope.names.lookup x=some .local
 cel:∀ x,sc.names.lookup x=some .cell→X.env.scope.names.lookup x=some .cell
 fre:∀ x,sc.names.lookup x=some .free→X.env.scope.names.lookup x=some .cell∨X.env.scope.names.lookup x=some .free
 fnn:sc.fn.isSome=true→∀ x,X.fn x=true
 room:Room k X.A
 xe:X.xe=fun _ _=>False
 blt:MgOk ar X.mg
 fns:∀ x n,ar x=some n→(∃ ps,zGy X.prog X.w X.K X.mg X.base x ps k (spOf X.K (cl x) n))∧∀ ds S d S',cl x ds S=.ok d S'→ds.length=n
section
variable {X:Cx}{sc:Sc}{ar:Str→Option Nat}{cl:Str→List D→M D}{k:Nat}
theorem XOk.vis (h:XOk X sc ar cl k) {x:Str} (hv:sc.names.lookup x=some .local∨sc.names.lookup x=some .cell∨sc.names.lookup x=some .free):Vis X.env.scope x:=by
 rcases hv with q | q | q
 ·exact .inl (h.loc x q)
 ·exact .inr (.inl (h.cel x q))
 ·exact .inr (h.fre x q)
noncomputable def zRY (o:Option NameKind):Bool:=o == some .local||o == some .cell||o == some .free
theorem zPl {o:Option NameKind} (h:zRY o=true):o=some .local∨o=some .cell∨o=some .free:=by
 unfold zRY at h
 simp only [qF8,beq_iff_eq] at h
 rcases h with (h | h) | h
 ·exact .inl h
 ·exact .inr (.inl h)
 ·exact .inr (.inr h)
noncomputable def zEv:List Str→Str→Nat→Option Nat
 | [],_,_=>none
 | y::r,x,i=>if y=x then some i else zEv r x (i+1)
theorem zDb:∀ {N:List Str}{x:Str}{i j:Nat},zEv N x i=some j→i≤j∧N[j - i]?=some x
 | [],_,_,_,h=>by cases h
 | y::r,x,i,j,h=>by
  unfold zEv at h
  split at h
  ·rename_i e; cases h; subst e; exact ⟨qB0 _,by simp⟩
  ·obtain ⟨h1,h2⟩:=zDb h
   refine ⟨by omega,?_⟩
   have e:j - i=(j - (i+1))+1:=by omega
   rw [e,qD6]; exact h2
noncomputable def zSf (sc:Sc) (ar:Str→Option Nat) (x:Str):Option C:=match zEv sc.N x 0 with
 | some i=>if zRY (sc.names.lookup x)&&!(x == ("__debug__":Str))&&!(x == ("__classdict__":Str)) then some (cVar i) else none
 | none=>if sc.names.lookup x=some .globalImplicit∧ar x=none then
   (if x=("int":Str) then some (cCon (.ty "int")) else if x=("bool":Str) then some (cCon (.ty "bool")) else if x=("tuple":Str) then some (cCon (.ty "tuple"))
    else if x=("list":Str) then some (cCon (.ty "list")) else if x=("str":Str) then some (cCon (.ty "str"))
    else none)
  else none
theorem zTb (h:XOk X sc ar cl k) {x:Str}{pos:Pos}{c:C} (e:zSf sc ar x=some c):PE X (.Name x pos) (tOf X.K c):=by
 unfold zSf at e
 split at e
 ·rename_i i hi
  split at e
  ·rename_i hv
   cases e
   simp only [qC9,qI2] at hv
   obtain ⟨⟨h1,h2⟩,h3⟩:=hv
   have:=(zDb hi).2
   exact zT2 (zTs (by rw [h.N]; exact this) (h.vis (zPl h1)) h2 h3)
  ·cases e
 ·split at e
  ·rename_i hg
   have g:=h.gl x hg.1
   have ty:∀ (n:String) (b:bootBuiltins x=some (.type n)) (hn:x ≠ "__name__") (hd:(x == ("__debug__":Str))=false) (hm:X.mg x=none),PE X (.Name x pos) (tOf X.K (cCon (.ty n))):=fun n b hn hd hm =>
    zHD (zRn (v:=.ty n) g hm b rfl hn hd) fun K H μ=>by unfold RV; rfl
   split at e
   ·rename_i q; subst q; cases e
    exact ty "int" zQk (by decide +kernel) (by decide +kernel) (h.blt.b _ (by decide +kernel) hg.2)
   ·split at e
    ·rename_i q; subst q; cases e
     exact ty "bool" zSi (by decide +kernel) (by decide +kernel) (h.blt.b _ (by decide +kernel) hg.2)
    ·split at e
     ·rename_i q; subst q; cases e
      exact ty "tuple" zKI (by decide +kernel) (by decide +kernel) (h.blt.b _ (by decide +kernel) hg.2)
     ·split at e
      ·rename_i q; subst q; cases e
       exact ty "list" zJK (by decide +kernel) (by decide +kernel) (h.blt.b _ (by decide +kernel) hg.2)
      ·split at e
       ·rename_i q; subst q; cases e
        exact ty "str" zUZ (by decide +kernel) (by decide +kernel) (h.blt.b _ (by decide +kernel) hg.2)
       ·cases e
  ·cases e
noncomputable def zQj:Const→Option C
 | .none=>some (cCon .non)
 | .bool b=>some (cCon (.bl b))
 | .int i=>some (cCon (.int i))
 | .str x=>some (cCon (.str x))
 | _=>none
theorem zQU {v:Const}{j:Nat}{pos:Pos}{c:C} (e:zQj v=some c):PE X (.Constant v j pos) (tOf X.K c):=by
 cases v with
 | none=>cases e; exact zHD zTx fun _ _ _=>zEU
 | bool b=>cases e; exact zHD zWp fun _ _ _=>zDk
 | int i=>cases e; exact zHD zTz fun _ _ _=>zB2
 | str x=>cases e; exact zHD zTu fun _ _ _=>zG8
 | _=>cases e
noncomputable def zU0:Operator→Option (D→D→M D)
 | .Add=>some oAdd
 | .Sub=>some (oInt fun i j=>i - j)
 | .Mult=>some oMul
 | .Mod=>some oMod
 | .FloorDiv=>some oDiv
 | .Pow=>some oPow
 | .LShift=>some oShl
 | .RShift=>some oShr
 | .BitAnd=>some (oInt Builtin.bitAnd)
 | .BitOr=>some (oInt Builtin.bitOr)
 | .BitXor=>some (oInt Builtin.bitXor)
 | _=>none
theorem s_op {op:Operator}{o:D→D→M D} (e:zU0 op=some o):OpS X.K (rAny X (binaryOp op)) o:=by
 cases op with
 | Add=>cases e; exact zTL
 | Sub=>cases e; exact zTD
 | Mult=>cases e; exact zTH
 | Mod=>cases e; exact zTI
 | FloorDiv=>cases e; exact zTJ
 | Pow=>cases e; exact zTG
 | LShift=>cases e; exact zTF
 | RShift=>cases e; exact zTE
 | BitAnd=>cases e; exact zTK
 | BitOr=>cases e; exact zWs
 | BitXor=>cases e; exact zTC
 | _=>cases e
noncomputable def zP4:CmpOp→Option (D→D→M D)
 | .Eq=>some oEq
 | .NotEq=>some oNe
 | .Lt=>some oLt
 | .LtE=>some (oCmp fun i j=>decide (i≤j))
 | .Gt=>some (oCmp fun i j=>decide (j<i))
 | .GtE=>some (oCmp fun i j=>decide (j≤i))
 | .Is=>some oIs
 | .IsNot=>some zGb
 | .In=>some (oIn false)
 | .NotIn=>some (oIn true)
theorem zKX (h:Room k X.A) {op:CmpOp}{o:D→D→M D} (e:zP4 op=some o):OpS X.K (rAny X (compareOp op)) o:=by
 have h1:=h.units
 have h2:=h.units0
 have h3:X.A.units+1<cLine:=zPu h
 cases op with
 | Eq=>cases e; exact zWB h1
 | NotEq=>cases e; exact zWt h1
 | Lt=>cases e; exact zWu h2
 | LtE=>cases e; exact zWv
 | Gt=>cases e; exact zWz
 | GtE=>cases e; exact zWA
 | Is=>cases e; exact zWx
 | IsNot=>cases e; exact zP1
 | In=>cases e; exact zWy h1
 | NotIn=>cases e; exact zP0 h1
noncomputable def zAM:Expr→Bool
 | .Starred _ _=>false
 | _=>true
theorem zAe {a:Expr}{es:List Expr}{env:Env} (h:zAM a=true):starEach (a::es) env=(false,eval a env)::starEach es env:=by
 cases a <;> first | rfl | cases h
noncomputable def zA1? (f:Expr→Option C):List Expr→Option (List C)
 | []=>some []
 | e::es=>if zAM e then (f e).bind fun c=>(zA1? f es).map (c::·) else none
def zD6 (X:Cx) (f:Expr→Option C):Prop:=∀ e c,f e=some c→PE X e (tOf X.K c)
variable {f:Expr→Option C}
theorem zDq (hf:zD6 X f):∀ {es:List Expr}{cs:List C},zA1? f es=some cs→PA X es (tOfA X.K (zA1 cs))∧(∀ e∈es,zAM e=true)
 | [],cs,e=>by cases e; exact ⟨zMn,by simp⟩
 | a::es,cs,e=>by
  unfold zA1? at e
  split at e
  ·rename_i hs
   obtain ⟨c,e1,e⟩:=qA3.mp e
   obtain ⟨cs',e2,e⟩:=qA4.mp e
   subst e
   obtain ⟨h1,h2⟩:=zDq hf e2
   exact ⟨zGG (hf a c e1) h1 (zAe hs),fun e he=>by
    rcases qB9.mp he with rfl | he
    ·exact hs
    ·exact h2 e he⟩
  ·cases e
theorem zEf {es:List Expr}{env:Env}{pos:Pos} (h:∀ e∈es,zAM e=true):(backTo pos (starEach es env)).any (·.1)=false:=by
 induction es with
 | nil=>rfl
 | cons a es ih =>
  rw [zAe (h a (by simp))]
  show (false||(backTo pos (starEach es env)).any (·.1))=false
  rw [ih fun e he=>h e (by simp [he])]; rfl
noncomputable def zFb:Expr→Bool
 | .Slice _ _ _ _=>true
 | _=>false
theorem zRh {b:Expr} (h:zFb b=false):zJS b:=by
 cases b <;> first | (intro o i; rfl) | cases h
noncomputable def zH7? (f:Expr→Option C):Option Expr→Option CO
 | none=>some zFv
 | some e=>(f e).map zH7
theorem zPX (hf:zD6 X f) {e:Option Expr}{c:CO} (h:zH7? f e=some c):PO X e (tOfO X.K c):=by
 cases e with
 | none=>cases h; exact zQH
 | some a =>
  obtain ⟨ca,e1,e2⟩:=qA4.mp h
  subst e2
  exact zQG (hf a ca e1)
noncomputable def cSub (f:Expr→Option C) (a b:Expr):Option C:=match b with
 | .Slice lo hi none _=>(f a).bind fun ca=>(zH7? f lo).bind fun cl=>(zH7? f hi).map fun ch=>cSl oSl ca cl ch
 | _=>if zFb b then none else (f a).bind fun ca=>(f b).map fun cb=>cBin oIx ca cb
theorem zW9 (h:Room k X.A) (hf:zD6 X f) {a b:Expr}{pos:Pos}{c:C} (e:cSub f a b=some c):PE X (.Subscript a b pos) (tOf X.K c):=by
 unfold cSub at e
 split at e
 ·obtain ⟨ca,e1,e⟩:=qA3.mp e
  obtain ⟨cl,e2,e⟩:=qA3.mp e
  obtain ⟨ch,e3,e⟩:=qA4.mp e
  subst e
  exact zOw zW2 (hf a ca e1) (zPX hf e2) (zPX hf e3)
 ·split at e
  ·cases e
  ·rename_i hs
   obtain ⟨ca,e1,e⟩:=qA3.mp e
   obtain ⟨cb,e2,e⟩:=qA4.mp e
   subst e
   exact zW7 (zWw (zPu h)) (hf a ca e1) (hf b cb e2) (zRh (by simpa using hs))
noncomputable def zE3 (f:Expr→Option C) (a:Expr) (ops:List CmpOp) (bs:List Expr):Option C:=match ops,bs with
 | [op],[b]=>if behindInMarks op b then none else (zP4 op).bind fun o=>(f a).bind fun ca=>(f b).map fun cb=>cBin o ca cb
 | [op,op'],[b,c]=>if lastMarks [op,op'] [b,c] then none else (zP4 op).bind fun o=>(zP4 op').bind fun o'=>(f a).bind fun ca=>(f b).bind fun cb=>(f c).map fun cc=>zGu o o' ca cb cc
 | _,_=>none
theorem zMp (h:Room k X.A) (hf:zD6 X f) {a:Expr}{ops:List CmpOp}{bs:List Expr}{pos:Pos}{c:C} (e:zE3 f a ops bs=some c):PE X (.Compare a ops bs pos) (tOf X.K c):=by
 unfold zE3 at e
 split at e
 ·rename_i op b
  split at e
  ·cases e
  ·rename_i hm
   obtain ⟨o,e0,e⟩:=qA3.mp e
   obtain ⟨ca,e1,e⟩:=qA3.mp e
   obtain ⟨cb,e2,e⟩:=qA4.mp e
   subst e
   exact zT6 (zKX h e0) (hf a ca e1) (hf b cb e2) (by simpa using hm)
 ·rename_i op op' b c
  split at e
  ·cases e
  ·rename_i hm
   obtain ⟨o,e0,e⟩:=qA3.mp e
   obtain ⟨o',e0',e⟩:=qA3.mp e
   obtain ⟨ca,e1,e⟩:=qA3.mp e
   obtain ⟨cb,e2,e⟩:=qA3.mp e
   obtain ⟨cc,e3,e⟩:=qA4.mp e
   subst e
   exact zOz (zKX h e0) (zKX h e0') (hf a ca e1) (hf b cb e2) (hf c cc e3) (by simpa using hm)
 ·cases e
noncomputable def zGB (f:Expr→Option C) (a:Expr) (ops:List CmpOp) (bs:List Expr):Option CT:=match ops,bs with
 | ops,bs=>(zE3 f a ops bs).map zAk
theorem zKW (h:Room k X.A) (hf:zD6 X f) {a:Expr}{ops:List CmpOp}{bs:List Expr}{pos:Pos}{c:CT} (e:zGB f a ops bs=some c):PT X (.Compare a ops bs pos) (tOfT X.K c):=by
 unfold zGB at e
 split at e
 ·obtain ⟨cc,e1,e⟩:=qA4.mp e
  subst e
  unfold zE3 at e1
  split at e1
  ·split at e1
   ·cases e1
   ·rename_i hm
    obtain ⟨o,e0,e⟩:=qA3.mp e1
    obtain ⟨ca,g1,e⟩:=qA3.mp e
    obtain ⟨cb,e2,e⟩:=qA4.mp e
    subst e
    exact zSN (zKX h e0) (hf _ ca g1) (hf _ cb e2) (by simpa using hm)
  ·split at e1
   ·cases e1
   ·rename_i hm
    obtain ⟨o,e0,e⟩:=qA3.mp e1
    obtain ⟨o',e0',e⟩:=qA3.mp e
    obtain ⟨ca,g1,e⟩:=qA3.mp e
    obtain ⟨cb,e2,e⟩:=qA3.mp e
    obtain ⟨cc,e3,e⟩:=qA4.mp e
    subst e
    exact zOq (zKX h e0) (zKX h e0') (hf _ ca g1) (hf _ cb e2) (hf _ cc e3) (by simpa using hm)
  ·cases e1
noncomputable def zHJ:Expr→Bool
 | .Name _ _=>true
 | .Subscript _ _ _=>true
 | .Call _ (_::_) _ _=>true
 | _=>false
theorem zSk {o:Expr}{name:Str}{env:Env} (h:zHJ o=true):attributeBase o name env (eval o env)=eval o env:=by
 cases o with
 | Call f args kw pos =>
  cases args with
  | nil=>cases h
  | cons a r=>cases f <;> rfl
 | _=>first | rfl | cases h
noncomputable def zPK (x:Str):Option (List D→M D) :=
 if x=("len":Str) then some fLen else
 if x=("isinstance":Str) then some zBA else
 if x=("tuple":Str) then some zBa else
 if x=("list":Str) then some zNt else
 if x=("min":Str) then some fMin else
 if x=("max":Str) then some fMax else
 if x=("all":Str) then some (zCL fun bs=>bs.all id) else
 if x=("any":Str) then some (zCL fun bs=>bs.any id) else
 if x=("int":Str) then some fInt else
 if x=("repr":Str) then some zJs else
 if x=("sorted":Str) then some zAt else
 none
noncomputable def zHI:Expr→Option (List Expr)
 | .Call (.Name x _) as [] _=>if x=("range":Str) then some as else none
 | _=>none
noncomputable def zEB:List D→M D:=fun xs S=>match xs with
 | [.int j]=>if -4611686018427387904≤j∧j<4611686018427387904∧j≤1000 then .ok (.lst S.length) (S++[.lst (upD 0 j.toNat)]) else .bad
 | [.int i,.int j]=>if -4611686018427387904≤i∧i<4611686018427387904∧-4611686018427387904≤j∧j<4611686018427387904∧j - i≤1000 then .ok (.lst S.length) (S++[.lst (upD i (j - i).toNat)]) else .bad
 | _=>.bad
noncomputable def zO5 (sc:Sc) (ar:Str→Option Nat) (cl:Str→List D→M D) (f:Expr→Option C) (x:Str) (es:List Expr):Option C :=
 if sc.names.lookup x=some .globalImplicit then
  match ar x with
  | some n=>if es.length=n∧es≠[]∧(x == ("__debug__":Str))=false then (zA1? f es).map fun cs=>cApp (cl x) (zA1 cs) else none
  | none=>match es with
   | [e] =>
    match zHI e with
    | some as=>if x=("list":Str)∧ar "range"=none∧sc.names.lookup ("range":Str)=some .globalImplicit∧(as.length=1∨as.length=2) then (zA1? f as).map fun cs=>cApp zEB (zA1 cs) else none
    | none=>(zPK x).bind fun o=>(zA1? f es).map fun cs=>cApp o (zA1 cs)
   | _::_=>(zPK x).bind fun o=>(zA1? f es).map fun cs=>cApp o (zA1 cs)
   | []=>none
 else none
theorem zOl {K:W.Frag}{H:Hp}{μ:List Addr} (lo:Int) (n:Nat):RVs K H μ (upD lo n) (upV lo n):=by
 unfold upD upV
 generalize List.range n=l
 induction l with
 | nil=>exact .nil
 | cons a r ih=>exact .cons zB2 ih
set_option maxHeartbeats 2000000 in
theorem zTd (h:XOk X sc ar cl k) {x:Str} (hx:sc.names.lookup x=some .globalImplicit) (hn:ar x=none) {o:List D→M D} (eo:zPK x=some o) {e:Expr}{es:List Expr}{cs:List C} (ha:PA X (e::es) (tOfA X.K (zA1 cs))) (hs:∀ a∈e::es,zAM a=true) {p pos:Pos}:PE X (.Call (.Name x p) (e::es) [] pos) (tOf X.K (cApp o (zA1 cs))):=by
 have g:=h.gl x hx
 have s1:=zAe (es:=es) (env:=X.env) (hs e (by simp))
 have s2:(backTo pos (starEach es X.env)).any (·.1)=false:=zEf fun a ha=>hs a (by simp [ha])
 unfold zPK at eo
 have B:∀ (id:String) (hb:bootBuiltins x=some (.builtin id)) (hm:X.mg x=none) (hne:x ≠ "__name__") (hd:(x == ("__debug__":Str))=false) (o:List D→M D),zDG X.K (cAny X (.builtin id)) o→PE X (.Call (.Name x p) (e::es) [] pos) (tOf X.K (cApp o (zA1 cs))):=fun id hb hm hne hd o ho =>
  (zOY zH6 g hm hb ha hne hd s1 s2).weak (zQ3 ho)
 have T:∀ (id:String) (hb:bootBuiltins x=some (.type id)) (hm:X.mg x=none) (hne:x ≠ "__name__") (hd:(x == ("__debug__":Str))=false) (o:List D→M D),zDG X.K (cAny X (.type id)) o→PE X (.Call (.Name x p) (e::es) [] pos) (tOf X.K (cApp o (zA1 cs))):=fun id hb hm hne hd o ho =>
  (zEW zH6 g hm hb ha hne hd s1 s2).weak (zQ3 ho)
 split at eo
 ·rename_i q; subst q; cases eo; exact B "len" zV2 (h.blt.b _ (by decide +kernel) hn) (by decide +kernel) (by decide +kernel) _ zUS
 split at eo
 ·rename_i q; subst q; cases eo; exact B "isinstance" zH8 (h.blt.b _ (by decide +kernel) hn) (by decide +kernel) (by decide +kernel) _ zSd
 split at eo
 ·rename_i q; subst q; cases eo; exact T "tuple" zKI (h.blt.b _ (by decide +kernel) hn) (by decide +kernel) (by decide +kernel) _ zPE
 split at eo
 ·rename_i q; subst q; cases eo; exact T "list" zJK (h.blt.b _ (by decide +kernel) hn) (by decide +kernel) (by decide +kernel) _ zSc
 split at eo
 ·rename_i q; subst q; cases eo; exact B "min" zV0 (h.blt.b _ (by decide +kernel) hn) (by decide +kernel) (by decide +kernel) _ (zUQ h.calm)
 split at eo
 ·rename_i q; subst q; cases eo; exact B "max" zV1 (h.blt.b _ (by decide +kernel) hn) (by decide +kernel) (by decide +kernel) _ (zUR h.calm)
 split at eo
 ·rename_i q; subst q; cases eo; exact B "all" zV4 (h.blt.b _ (by decide +kernel) hn) (by decide +kernel) (by decide +kernel) _ (zUV h.calm)
 split at eo
 ·rename_i q; subst q; cases eo; exact B "any" zV3 (h.blt.b _ (by decide +kernel) hn) (by decide +kernel) (by decide +kernel) _ (zUU h.calm)
 split at eo
 ·rename_i q; subst q; cases eo; exact T "int" zQk (h.blt.b _ (by decide +kernel) hn) (by decide +kernel) (by decide +kernel) _ zUT
 split at eo
 ·rename_i q; subst q; cases eo; exact B "repr" (by decide +kernel) (h.blt.b _ (by decide +kernel) hn) (by decide +kernel) (by decide +kernel) _ (zSb h.room.gd h.room.units)
 split at eo
 ·rename_i q; subst q; cases eo; exact B "sorted" (by decide +kernel) (h.blt.b _ (by decide +kernel) hn) (by decide +kernel) (by decide +kernel) _ (zNJ h.calm h.room.units)
 cases eo
theorem zQS (h:XOk X sc ar cl k) (hx:sc.names.lookup ("list":Str)=some .globalImplicit) (hn:ar "list"=none) (hr:sc.names.lookup ("range":Str)=some .globalImplicit) (hnr:ar "range"=none) {as:List Expr}{cs:List C} (ha:PA X as (tOfA X.K (zA1 cs))) (hs:∀ a∈as,zAM a=true) (hl:as.length=1∨as.length=2) {p pos p2 pos2:Pos} :
  PE X (.Call (.Name "list" p) [.Call (.Name "range" p2) as [] pos2] [] pos) (tOf X.K (cApp zEB (zA1 cs))):=by
 have g1:=h.gl _ hx
 have g2:=h.gl _ hr
 have R:PE X (.Call (.Name "range" p2) as [] pos2) (tCB (cAny X (.type "range")) (tOfA X.K (zA1 cs))):=by
  cases as with
  | nil=>simp at hl
  | cons e es=>exact zEW zH6 g2 (h.blt.b _ (by decide +kernel) hnr) zPJ ha (by decide +kernel) (by decide +kernel) (zAe (hs e (by simp))) (zEf fun a ha=>hs a (by simp [ha]))
 have L:=zEW (p:=p) (pos:=pos) (zH6 (X:=X) (f:=.type "list")) g1 (h.blt.b _ (by decide +kernel) hn) zJK (zMC R zQ2 rfl) (by decide +kernel) (by decide +kernel) rfl rfl
 refine L.weak ?_
 rintro σ H Q ⟨μ,ρ,S,d,S',sr,re,e,y⟩
 obtain ⟨xs,S1,e1,e⟩:=zA6 e
 refine ⟨μ,ρ,S,xs,S1,sr,re,e1,fun vs H1 μ1 sr1 st1 r1=>?_⟩
 have y1:=y.shift st1
 have fin:∀ (i j:Int),-4611686018427387904≤i→i<4611686018427387904→-4611686018427387904≤j→j<4611686018427387904→j - i≤1000→Yld X.K μ1 H1 (.lst S1.length) (S1++[.lst (upD i (j - i).toNat)]) Q→∀ q,H1 q=none→cAny X (.type "list") [.ref q] (upd H1 q (.rng i j)) Q:=by
  intro i j b1 b2 b3 b4 b5 y1 q hq
  obtain ⟨sr2,st2⟩:=sr1.other (o:=.rng i j) hq
  exact ⟨_,zH5 h.calm,q,i,j,rfl,zAb,b1,b2,b3,b4,by omega,fun l hl=>(y1.shift st2).newL sr2 hl (zOl _ _)⟩
 unfold zEB at e
 split at e
 ·rename_i j
  split at e
  ·rename_i hb
   cases e
   obtain ⟨v,rfl,r⟩:=r1.one
   unfold RV at r; subst r
   refine ⟨_,zJG,j,rfl,fun q hq=>?_⟩
   have:=fin 0 j (by decide) (by decide) hb.1 hb.2.1 (by omega) (by rw [Int.sub_zero]; exact y1) q hq
   exact this
  ·cases e
 ·rename_i i j
  split at e
  ·rename_i hb
   cases e
   obtain ⟨v,u,rfl,r,r'⟩:=r1.two
   unfold RV at r r'; subst r r'
   exact ⟨_,zJF,i,j,rfl,fun q hq=>fin i j hb.1 hb.2.1 hb.2.2.1 hb.2.2.2.1 hb.2.2.2.2 y1 q hq⟩
  ·cases e
 ·cases e
theorem zQW (h:XOk X sc ar cl k) (hf:zD6 X f) {x:Str}{es:List Expr}{c:C}{p pos:Pos} (e:zO5 sc ar cl f x es=some c):PE X (.Call (.Name x p) es [] pos) (tOf X.K c):=by
 unfold zO5 at e
 split at e
 ·rename_i hx
  split at e
  ·rename_i n hn
   split at e
   ·rename_i hc
    obtain ⟨hl,hne,hd⟩:=hc
    obtain ⟨cs,e1,e⟩:=qA4.mp e
    subst e
    obtain ⟨h1,h2⟩:=zDq hf e1
    obtain ⟨⟨ps,Ca⟩,hlen⟩:=h.fns x n hn
    cases es with
    | nil=>exact absurd rfl hne
    | cons a es =>
     exact (zOX (p:=p) (pos:=pos) Ca h.room (h.gl x hx) h1 (qB0 _) hd (zAe (h2 a (by simp))) (zEf fun b hb=>h2 b (by simp [hb]))).weak (zRt hlen)
   ·cases e
  ·rename_i hn
   split at e
   ·rename_i a
    split at e
    ·rename_i as ha
     split at e
     ·rename_i hc
      obtain ⟨rfl,hnr,hr,hl⟩:=hc
      obtain ⟨cs,e1,e⟩:=qA4.mp e
      subst e
      obtain ⟨h1,h2⟩:=zDq hf e1
      unfold zHI at ha
      split at ha
      ·rename_i x' p' as' pos'
       split at ha
       ·rename_i q; subst q; cases ha
        exact zQS h hx hn hr hnr h1 h2 hl
       ·cases ha
      ·cases ha
     ·cases e
    ·obtain ⟨o,e0,e⟩:=qA3.mp e
     obtain ⟨cs,e1,e⟩:=qA4.mp e
     subst e
     obtain ⟨h1,h2⟩:=zDq hf e1
     exact zTd h hx hn e0 h1 h2
   ·obtain ⟨o,e0,e⟩:=qA3.mp e
    obtain ⟨cs,e1,e⟩:=qA4.mp e
    subst e
    obtain ⟨h1,h2⟩:=zDq hf e1
    exact zTd h hx hn e0 h1 h2
   ·cases e
 ·cases e
end
open PySem PySem.Spec PyProof.Rows
section
variable {X:Cx}{sc:Sc}{ar:Str→Option Nat}{cl:Str→List D→M D}{k:Nat}{f:Expr→Option C}
noncomputable def zU8 (m:Str) (co:C):Option C :=
 if m=("pop":Str) then some (zKF "list" (zBg gPop) co) else
 none
noncomputable def zU7 (m:Str) (co ca:C):Option C :=
 if m=("append":Str) then some (zDo "list" (zBg zAy) co (zA1 [ca])) else
 if m=("extend":Str) then some (zDo "list" zDA co (zA1 [ca])) else
 none
noncomputable def zU6 (m:Str) (co ca cb:C):Option C :=
 if m=("insert":Str) then some (zDo "list" (zBg zEn) co (zA1 [ca,cb])) else
 if m=("setdefault":Str) then some (zDo "dict" zGQ co (zA1 [ca,cb])) else
 none
noncomputable def zJI (f:Expr→Option C) (o:Expr) (m:Str) (es:List Expr) (apos cpos:Pos):Option C :=
 if zHJ o&&(apos.endLine == cpos.line) then (f o).bind fun co=>match es with
  | []=>zU8 m co
  | [a]=>if zAM a then (f a).bind fun ca=>zU7 m co ca else none
  | [a,b]=>if zAM a&&zAM b then (f a).bind fun ca=>(f b).bind fun cb=>zU6 m co ca cb else none
  | _=>none
 else none
theorem zOB (hr0:Room k X.A) (hf:zD6 X f) {o:Expr}{m:Str}{es:List Expr}{apos cpos:Pos}{c:C} (e:zJI f o m es apos cpos=some c):PE X (.Call (.Attribute o m apos) es [] cpos) (tOf X.K c):=by
 unfold zJI at e
 split at e
 ·rename_i hc
  rw [qC9] at hc
  obtain ⟨hr,hl⟩:=hc
  obtain ⟨co,e0,g⟩:=qA3.mp e
  clear e
  have hb:∀ name,attributeBase o name X.env (eval o X.env)=eval o X.env:=fun name=>zSk hr
  split at g
  ·unfold zU8 at g
   split at g
   ·rename_i q; subst q; cases g
    exact zOx PySem.F.plainAttrs_list PySem.F.slot_list_pop PySem.F.type_list_pop zU5 (hf o co e0) (hb _) hl
   cases g
  ·rename_i a
   split at g
   ·rename_i hs
    obtain ⟨ca,e1,g'⟩:=qA3.mp g
    clear g
    have s1:=zAe (es:=[]) (env:=X.env) hs
    have hA:PA X [a] (tOfA X.K (zA1 [ca])):=zGG (hf a ca e1) zMn s1
    have hfew:((backTo cpos (starEach [a] X.env)).all (fun x=>!x.1)&&(backToKw cpos (keywordEach [] X.env)).all (fun x=>x.1.isSome)
     && decide ([a].length+([]:List Keyword).length+(if ([]:List Keyword).isEmpty then 0 else 1)<30))=true:=by rw [s1]; rfl
    unfold zU7 at g'
    split at g'
    ·rename_i q; subst q; cases g'
     exact zGE PySem.F.plainAttrs_list PySem.F.slot_list_append PySem.F.type_list_append zMT (hf o co e0) hA (hb _) hfew hl s1 rfl
    split at g'
    ·rename_i q; subst q; cases g'
     exact zGE PySem.F.plainAttrs_list PySem.F.slot_list_extend PySem.F.type_list_extend zMS (hf o co e0) hA (hb _) hfew hl s1 rfl
    cases g'
   ·cases g
  ·rename_i a b
   split at g
   ·rename_i hs
    rw [qC9] at hs
    obtain ⟨ca,e1,g1⟩:=qA3.mp g
    obtain ⟨cb,e2,g'⟩:=qA3.mp g1
    clear g g1
    have s2:=zAe (es:=[]) (env:=X.env) hs.2
    have s1:=zAe (es:=[b]) (env:=X.env) hs.1
    have hA:PA X [a,b] (tOfA X.K (zA1 [ca,cb])):=zGG (hf a ca e1) (zGG (hf b cb e2) zMn s2) s1
    have hfew:((backTo cpos (starEach [a,b] X.env)).all (fun x=>!x.1)&&(backToKw cpos (keywordEach [] X.env)).all (fun x=>x.1.isSome)
     && decide ([a,b].length+([]:List Keyword).length+(if ([]:List Keyword).isEmpty then 0 else 1)<30))=true:=by rw [s1,s2]; rfl
    unfold zU6 at g'
    split at g'
    ·rename_i q; subst q; cases g'
     exact zGE PySem.F.plainAttrs_list PySem.F.slot_list_insert PySem.F.type_list_insert zMR (hf o co e0) hA (hb _) hfew hl s1 (by rw [s2]; rfl)
    split at g'
    ·rename_i q; subst q; cases g'
     exact zGE PySem.F.plainAttrs_dict PySem.F.slot_dict_setdefault PySem.F.type_dict_setdefault (zRA (zPu hr0)) (hf o co e0) hA (hb _) hfew hl s1 (by rw [s2]; rfl)
    cases g'
   ·cases g
  ·cases g
 ·cases e
noncomputable def zJJ:C:=fun _ S=>.ok (.dct S.length) (S++[.dk []])
theorem zQR {pos:Pos}:PE X (.Dict [] [] pos) (tOf X.K zJJ):=zOV.weak (by
 rintro σ H Q ⟨μ,ρ,S,d,S',sr,re,e,y⟩
 unfold zJJ at e
 cases e
 intro p hp
 obtain ⟨s1,s2⟩:=sr.push (o:=.dK []) (o':=.dk []) hp ⟨[],zAb,RKs.nil⟩
 exact y _ _ _ s1 s2 (by unfold RV; exact ⟨p,rfl,by rw [← sr.len,qA0 (qB0 _),qK1]; rfl⟩))
noncomputable def zPI (a b:C):C:=fun ρ=>bnd (a ρ) fun x=>bnd (b ρ) fun y S=>match zCN x with
 | some k=>.ok (.dct S.length) (S++[.dk [(k,y)]])
 | none=>.bad
theorem zQQ {a b:Expr}{ca cb:C}{pos:Pos} (ha:PE X a (tOf X.K ca)) (hb:PE X b (tOf X.K cb)):PE X (.Dict [some a] [b] pos) (tOf X.K (zPI ca cb)):=(zRj (zON ha hb zRe) rfl rfl (by simp) (by simp)).weak (by
 rintro σ H Q ⟨μ,ρ,S,d,S',sr,re,e,y⟩
 obtain ⟨x,S1,e1,f1⟩:=zA6 e
 obtain ⟨z,S2,e2,f2⟩:=zA6 f1
 split at f2
 ·rename_i key hk
  cases f2
  intro p hp
  obtain ⟨s1,s2⟩:=sr.other (o:=.dK []) hp
  refine ⟨μ,ρ,S,x,S1,s1,re.up s2,e1,fun v H1 μ1 sr1 st1 r1=>⟨μ1,ρ,S1,z,S2,sr1,(re.up s2).up st1,e2,fun u H2 μ2 sr2 st2 r2=>?_⟩⟩
  have n0:p∉μ:=sr.out hp
  have q0:upd H p (.dK []) p=some (.dK []):=zAb
  have q1:=st1.fr p _ n0 q0
  have n1:=st1.notIn n0 q0
  have q2:=st2.fr p _ n1 q1
  have n2:=st2.notIn n1 q1
  have ev:=zFa hk r1
  subst ev
  refine ⟨q2,[(key,u)],rfl,by simp,?_⟩
  have e3:zF3 [] [(key,u)]=[(key,u)]:=by simp [zF3,putK]
  rw [e3]
  have tk:TF X.K H2 (upd H2 p (.dK [(key,u)])):=zDI q2 (fun _ z=>by cases z) (fun _ _ z=>by cases z)
  have st12:=st1.trans st2 sr2.nd
  have st02:Step X.K μ μ2 H H2:=s2.trans st12 sr2.nd
  have sr3:SR X.K (μ2++[p]) (S2++[.dk [(key,z)]]) (upd H2 p (.dK [(key,u)])):=by
   refine ⟨by simp [sr2.len],?_,fun n a w g1 g2=>?_⟩
   ·rw [qF5]
    refine ⟨sr2.nd,by simp,fun a ha b hb=>?_⟩
    simp at hb; subst hb
    exact fun z=>n2 (z▸ha)
   ·by_cases hn:n<μ2.length
    ·rw [qA7 hn] at g1
     rw [qA7 (by rw [← sr2.len]; exact hn)] at g2
     exact (sr2.obj n a w g1 g2).up tk ⟨[p],rfl⟩ (zAa fun z=>n2 (z▸qB5 g1))
    ·rw [qA0 (by omega)] at g1
     rw [qA0 (by rw [← sr2.len]; omega)] at g2
     have h1:n - μ2.length=0:=by
      have:=(qA1.mp g1).1
      simp at this; omega
     rw [h1] at g1
     rw [← sr2.len,h1] at g2
     simp at g1 g2
     subst g1 g2
     exact ⟨[(key,u)],zAb,RKs.cons (RV.up tk ⟨[p],rfl⟩ _ _ r2) .nil⟩
  have st3:Step X.K μ (μ2++[p]) H (upd H2 p (.dK [(key,u)])):=by
   obtain ⟨ν,e4,n⟩:=st02.pre
   refine ⟨⟨ν++[p],by rw [e4,qB8],fun b hb=>?_⟩,fun b o hb q=>by rw [zAa (zAD q hp)]; exact st02.fr b o hb q,st02.tk.trans tk⟩
   rcases qB3.mp hb with h | h
   ·exact n b h
   ·simp at h; subst h; exact hp
  exact y _ _ _ sr3 st3 (by unfold RV; exact ⟨p,rfl,by rw [← sr2.len,qA0 (qB0 _),qK1]; rfl⟩)
 ·cases f2)
noncomputable def zSg (f:Expr→Option C) (ks:List (Option Expr)) (vs:List Expr):Option C:=match ks,vs with
 | [],[]=>some zJJ
 | [some a],[b]=>(f a).bind fun ca=>(f b).map fun cb=>zPI ca cb
 | _,_=>none
theorem zTc (hf:zD6 X f) {ks:List (Option Expr)}{vs:List Expr}{pos:Pos}{c:C} (e:zSg f ks vs=some c):PE X (.Dict ks vs pos) (tOf X.K c):=by
 unfold zSg at e
 split at e
 ·cases e; exact zQR
 ·obtain ⟨ca,e1,e⟩:=qA3.mp e
  obtain ⟨cb,e2,e⟩:=qA4.mp e
  subst e
  exact zQQ (hf _ _ e1) (hf _ _ e2)
 ·cases e
noncomputable def zKG (op:BoolOp) (f:Expr→Option C):List Expr→Option C
 | []=>none
 | [a]=>f a
 | a::b::r=>(f a).bind fun ca=>(zKG op f (b::r)).map fun cb=>match op with
  | .And=>zO7 ca cb
  | .Or=>cOrV ca cb
theorem zIU (hf:zD6 X f) {op:BoolOp}{pos:Pos}:∀ {vs:List Expr}{c:C},zKG op f vs=some c→PE X (.BoolOp op vs pos) (tOf X.K c)
 | [],c,e=>by cases e
 | [a],c,e=>zTv (hf a c e)
 | a::b::r,c,e=>by
  unfold zKG at e
  obtain ⟨ca,e1,e⟩:=qA3.mp e
  obtain ⟨cb,e2,e⟩:=qA4.mp e
  subst e
  cases op with
  | And=>exact zT8 (hf a ca e1) (zIU hf e2)
  | Or=>exact zW6 (hf a ca e1) (zIU hf e2)
def zIK (X:Cx) (t:Expr→Option CT):Prop:=∀ e c,t e=some c→PT X e (tOfT X.K c)
variable {t:Expr→Option CT}
noncomputable def zKH (op:BoolOp) (t:Expr→Option CT):List Expr→Option CT
 | []=>none
 | [a]=>t a
 | a::b::r=>(t a).bind fun ca=>(zKH op t (b::r)).map fun cb=>match op with
  | .And=>zIu ca cb
  | .Or=>cOrT ca cb
theorem zIV (ht:zIK X t) {op:BoolOp}{pos:Pos}:∀ {vs:List Expr}{c:CT},zKH op t vs=some c→PW X (.BoolOp op vs pos) (tOfT X.K c)
 | [],c,e=>by cases e
 | [a],c,e=>by
  cases op with
  | And=>exact zR5 (ht a c e)
  | Or=>exact zTj (ht a c e)
 | a::b::r,c,e=>by
  unfold zKH at e
  obtain ⟨ca,e1,e⟩:=qA3.mp e
  obtain ⟨cb,e2,e⟩:=qA4.mp e
  subst e
  cases op with
  | And=>exact zSK (ht a ca e1) (zIV ht e2)
  | Or=>exact zW1 (ht a ca e1) (zIV ht e2)
noncomputable def zAO:Expr→Bool
 | .Tuple _ _ _=>true
 | _=>false
noncomputable def zJ9:Expr→Bool
 | .Set _ _ _=>true
 | _=>false
theorem zFl {iter:Expr}{env:Env} (h:zJ9 iter=false):∀ x,foldedSetIterable iter env x=pure x:=by
 cases iter <;> first | (intro x; rfl) | cases h
noncomputable def zO1 (o:Option (List C)) (es:List Expr):Option CI:=o.bind fun cs=>match es with
 | [_]=>some (zBE (zA1 cs))
 | [_,_]=>some (zFi (zA1 cs))
 | _=>none
noncomputable def zSe (t:Bool) (o:Option (List C)) (es:List Expr):Option CI:=if t=true then o.bind fun cs=>match es with
  | [_,_]=>some (zPt (zA1 cs))
  | _=>none
 else none
noncomputable def zO3 (t:Bool) (o:Option (List C)) (es:List Expr):Option CI:=if t=true then o.bind fun cs=>match es with
  | [_]=>some (zEz (zA1 cs))
  | _=>none
 else none
noncomputable def zLF (sc:Sc) (ar:Str→Option Nat) (f:Expr→Option C) (tg iter:Expr):Option CI:=if zJ9 iter then none else match iter with
 | .Call (.Name x _) es [] _=>if sc.names.lookup x=some .globalImplicit∧ar x=none then
   (if x=("range":Str) then zO1 (zA1? f es) es else
    if x=("zip":Str) then zSe (zAO tg) (zA1? f es) es else
    if x=("enumerate":Str) then zO3 (zAO tg) (zA1? f es) es else
    (f iter).map iSeq)
  else (f iter).map iSeq
 | _=>(f iter).map iSeq
theorem zOA (hf:zD6 X f) {tg:Expr}{es:List Expr}{c:CI}{p pos:Pos} (g:Gl X "range") (hm:X.mg "range"=none) (e:zO1 (zA1? f es) es=some c):PI X tg (.Call (.Name "range" p) es [] pos) (tOfI X.K c):=by
 obtain ⟨cs,e1,e2⟩:=qA3.mp e
 clear e
 obtain ⟨h1,h2⟩:=zDq hf e1
 match es,h1,h2,e2 with
 | [a],h1,h2,e2 =>
  cases e2
  exact zMi (zMy g hm h1 (by rw [zAe (h2 a (by simp))]; rfl))
 | [a,b],h1,h2,e2 =>
  cases e2
  exact zMh (zMx g hm h1 (by rw [zAe (h2 a (by simp)),zAe (h2 b (by simp))]; rfl) (by rw [zAe (h2 b (by simp))]; rfl))
 | [],h1,h2,e2=>cases e2
 | _::_::_::_,h1,h2,e2=>cases e2
theorem zN7 {tg:Expr} (h:zAO tg=true):∃ es k pos,tg=.Tuple es k pos:=by
 cases tg <;> first | exact ⟨_,_,_,rfl⟩ | cases h
theorem zTa (hf:zD6 X f) {tg:Expr}{es:List Expr}{c:CI}{p pos:Pos} (g:Gl X "zip") (hm:X.mg "zip"=none) (e:zSe (zAO tg) (zA1? f es) es=some c):PI X tg (.Call (.Name "zip" p) es [] pos) (tOfI X.K c):=by
 unfold zSe at e
 by_cases ht:zAO tg=true
 ·rw [if_pos ht] at e
  obtain ⟨ts,kt,pt,rfl⟩:=zN7 ht
  obtain ⟨cs,e1,e2⟩:=qA3.mp e
  clear e ht
  obtain ⟨h1,h2⟩:=zDq hf e1
  match es,h1,h2,e2 with
  | [a,b],h1,h2,e2 =>
   cases e2
   exact zSW (zRi g hm h1 (by rw [zAe (h2 a (by simp)),zAe (h2 b (by simp))]; rfl) (by rw [zAe (h2 b (by simp))]; rfl))
  | _::_::_::_,h1,h2,e2=>cases e2
  | [],h1,h2,e2=>cases e2
  | [_],h1,h2,e2=>cases e2
 ·rw [if_neg ht] at e; cases e
theorem zQT (hf:zD6 X f) {tg:Expr}{es:List Expr}{c:CI}{p pos:Pos} (g:Gl X "enumerate") (hm:X.mg "enumerate"=none) (e:zO3 (zAO tg) (zA1? f es) es=some c):PI X tg (.Call (.Name "enumerate" p) es [] pos) (tOfI X.K c):=by
 unfold zO3 at e
 by_cases ht:zAO tg=true
 ·rw [if_pos ht] at e
  obtain ⟨ts,kt,pt,rfl⟩:=zN7 ht
  obtain ⟨cs,e1,e2⟩:=qA3.mp e
  clear e ht
  obtain ⟨h1,h2⟩:=zDq hf e1
  match es,h1,h2,e2 with
  | [a],h1,h2,e2 =>
   cases e2
   exact zQL (zOQ g hm h1 (by rw [zAe (h2 a (by simp))]; rfl))
  | [],h1,h2,e2=>cases e2
  | _::_::_,h1,h2,e2=>cases e2
 ·rw [if_neg ht] at e; cases e
theorem zMo (h:XOk X sc ar cl k) (hf:zD6 X f) {tg iter:Expr}{c:CI} (e:zLF sc ar f tg iter=some c):PI X tg iter (tOfI X.K c)∧zJ9 iter=false:=by
 unfold zLF at e
 split at e
 ·cases e
 rename_i hset
 refine ⟨?_,by simpa using hset⟩
 have dflt:∀ {c},(f iter).map iSeq=some c→PI X tg iter (tOfI X.K c):=fun e=>by
  obtain ⟨ca,e1,e⟩:=qA4.mp e
  subst e
  exact zSX (hf _ _ e1)
 split at e
 ·rename_i x p es pos
  split at e
  ·rename_i hx
   have g:=h.gl x hx.1
   split at e
   ·rename_i q; subst q
    exact zOA hf g (h.blt.b _ (by decide +kernel) hx.2) e
   split at e
   ·rename_i q; subst q
    exact zTa hf g (h.blt.b _ (by decide +kernel) hx.2) e
   split at e
   ·rename_i q; subst q
    exact zQT hf g (h.blt.b _ (by decide +kernel) hx.2) e
   exact dflt e
  ·exact dflt e
 ·exact dflt e
noncomputable def zEg:List Expr→Option (List Str)
 | []=>some []
 | .Name x _::r=>(zEg r).map (x::·)
 | _::_=>none
noncomputable def zKR:Expr→Option (Tgt × List Str)
 | .Name x _=>some (.one,[x])
 | .Tuple es _ _=>(zEg es).map fun xs=>(.many xs.length,xs)
 | _=>none
noncomputable def zAP (ns:List (Str × NameKind)):List Str:=(ns.filter fun y=>y.2 == .free).map (·.1)
noncomputable def slots (N:List Str):List Str→Option (List Nat)
 | []=>some []
 | x::r=>(zEv N x 0).bind fun j=>(slots N r).map (j::·)
noncomputable def zNN (xs:List Str) (scope:Scope):Sc:=⟨xs++zAP scope.names,scope.names,none⟩
noncomputable def compOk (sc:Sc) (xs:List Str) (scope:Scope):Bool :=
 decide (scope.kind=.function)&&scope.names.all (fun y=>y.2 != .cell||scope.names.lookup y.1 == some .cell)&&scope.names.all (fun y=>y.2 != .local||scope.names.lookup y.1 == some .local)
 && decide ((xs++zAP scope.names).Nodup)&&xs.all (fun x=>scope.names.lookup x == some .local||scope.names.lookup x == some .cell)&&decide (1≤xs.length)
 && (zAP scope.names).all (fun x=>(sc.names.lookup x == some .cell||sc.names.lookup x == some .free)&&scope.names.lookup x == some .free)
noncomputable def zFw (sc:Sc) (it:Option CI) (fe:Sc→Expr→Option C) (ft:Sc→Expr→Option CT) (tg elt:Expr) (ifs:List Expr) (scope:Scope):Option C :=
 (zKR tg).bind fun p=>if compOk sc p.2 scope then (slots sc.N (zAP scope.names)).bind fun js=>it.bind fun ci=>(fe (zNN p.2 scope) elt).bind fun ce=>match ifs with
  | []=>some (zBJ ci p.2.length js p.1 (fun _=>ret true) ce)
  | [q]=>(ft (zNN p.2 scope) q).map fun ct=>zBJ ci p.2.length js p.1 ct ce
  | _=>none
 else none
theorem zHy {N:List Str}:∀ {xs:List Str}{js:List Nat},slots N xs=some js→js.length=xs.length∧∀ (i j:Nat),js[i]?=some j→∃ x,xs[i]?=some x∧N[j]?=some x
 | [],js,e=>by cases e; exact ⟨rfl,fun i j h=>by simp at h⟩
 | x::r,js,e=>by
  unfold slots at e
  obtain ⟨j0,e1,e⟩:=qA3.mp e
  obtain ⟨js',e2,e⟩:=qA4.mp e
  subst e
  obtain ⟨h1,h2⟩:=zHy e2
  refine ⟨by simp [h1],fun i j h=>?_⟩
  cases i with
  | zero=>simp at h; subst h; exact ⟨x,rfl,(zDb e1).2⟩
  | succ i =>
   rw [qD6] at h
   obtain ⟨y,g1,g2⟩:=h2 i j h
   exact ⟨y,by rw [qD6]; exact g1,g2⟩
theorem zC8 {env:Env}:∀ {names:List (Str × NameKind)}{x:Str}{k:NameKind},k≠.free→names.lookup x=some k →
  (names.map fun (n,k)=>if (k == NameKind.free&&env.scope.kind == .function&&env.kindOf n == some .cell) then (n,NameKind.cell) else (n,k)).lookup x=some k
 | [],_,_,_,h=>by simp at h
 | (n,k')::r,x,k,nf,h=>by
  have ih:=@zC8 env r x k nf
  show List.lookup x ((if (k' == NameKind.free&&env.scope.kind == .function&&env.kindOf n == some .cell)=true then (n,NameKind.cell) else (n,k'))::_)=_
  cases hx:x == n with
  | true =>
   simp only [qD1,hx] at h
   cases h
   have e:(k' == NameKind.free)=false:=by simpa using nf
   simp [qD1,hx,e]
  | false =>
   simp only [qD1,hx] at h
   by_cases hc:(k' == NameKind.free&&env.scope.kind == .function&&env.kindOf n == some .cell)=true
   ·rw [if_pos hc]; simp only [qD1,hx]; exact ih h
   ·rw [if_neg hc]; simp only [qD1,hx]; exact ih h
theorem zPb {ns:List (Str × NameKind)}{x:Str}{k:NameKind} (h:ns.lookup x=some k):(x,k)∈ns:=zDx h
theorem XOk.comp (h:XOk X sc ar cl k) {xs:List Str}{scope:Scope} (hc:compOk sc xs scope=true) (cl':List (Str × Addr)) (s:Shared) (H:Hp) (C:Addr) (ex:List Addr):XOk (zBe X scope (xs++zAP scope.names) cl' s H C ex) (zNN xs scope) ar cl k:=by
 unfold compOk at hc
 simp only [qC9,decide_eq_true_eq] at hc
 obtain ⟨⟨⟨⟨⟨⟨c1,c2⟩,c3⟩,c4⟩,c5⟩,c6⟩,c7⟩:=hc
 exact {
  calm:=h.calm
  N:=rfl
  nd:=c4
  gl:=fun x hx=>zC8 (by decide) hx
  loc:=fun x hx=>zC8 (by decide) hx
  cel:=fun x hx=>zC8 (by decide) hx
  fre:=fun x hx=>zEw hx
  fnn:=fun z=>by cases z
  room:=h.room
  xe:=rfl
  blt:=h.blt
  fns:=h.fns }
theorem zEZ:∀ {es:List Expr}{xs:List Str},zEg es=some xs→es.length=xs.length∧∀ (i:Nat) (e:Expr),es[i]?=some e→∃ x pos,e=.Name x pos∧xs[i]?=some x
 | [],xs,h=>by cases h; exact ⟨rfl,fun i e h=>by simp at h⟩
 | a::r,xs,h=>by
  cases a with
  | Name x pos =>
   unfold zEg at h
   obtain ⟨ys,e1,e⟩:=qA4.mp h
   subst e
   obtain ⟨h1,h2⟩:=zEZ e1
   refine ⟨by simp [h1],fun i e he=>?_⟩
   cases i with
   | zero=>simp at he; subst he; exact ⟨x,pos,rfl,rfl⟩
   | succ i =>
    rw [qD6] at he
    obtain ⟨y,p,g1,g2⟩:=h2 i e he
    exact ⟨y,p,g1,by rw [qD6]; exact g2⟩
  | _=>cases h
theorem zFB {x:Str}{pos:Pos}{es:List Expr}{env:Env}:assignEach (.Name x pos::es) env=(false,assign (.Name x pos) env)::assignEach es env:=rfl
theorem zHL:∀ {es:List Expr}{s:Nat},(∀ (i:Nat) (e:Expr),es[i]?=some e→∃ x pos,e=.Name x pos∧X.N[s+i]?=some x∧Loc X.env.scope x∧(X.fn x=true∨X.env.scope.names.lookup x=some .local))→X.N.Nodup→PGs X es (zKs s es.length)
 | [],s,h,nd=>zMz
 | a::r,s,h,nd=>by
  obtain ⟨x,pos,rfl,g1,g2,g3⟩:=h 0 a rfl
  refine zKb (zGL nd (by simpa using g1) g2 g3) (zHL (s:=s+1) (fun i e he=>?_) nd) rfl
  obtain ⟨y,p,q1,q2,q3⟩:=h (i+1) e (by rw [qD6]; exact he)
  exact ⟨y,p,q1,by rw [show s+1+i=s+(i+1) by omega]; exact q2,q3⟩
theorem zCM {env:Env}:∀ {es:List Expr}{xs:List Str},zEg es=some xs→(assignEach es env).length=xs.length∧(assignEach es env).findIdx? (·.1)=none
 | [],xs,h=>by cases h; exact ⟨rfl,rfl⟩
 | a::r,xs,h=>by
  cases a with
  | Name x pos =>
   unfold zEg at h
   obtain ⟨ys,e1,e⟩:=qA4.mp h
   subst e
   obtain ⟨h1,h2⟩:=zCM (env:=env) e1
   rw [zFB]
   exact ⟨by simp [h1],by rw [qQ7]; simp [h2]⟩
  | _=>cases h
theorem zQv {tg:Expr}{t:Tgt}{xs:List Str} (e:zKR tg=some (t,xs)):tgtK t=xs.length:=by
 cases tg with
 | Name x pos=>cases e; rfl
 | Tuple es n pos =>
  unfold zKR at e
  obtain ⟨ys,e1,e⟩:=qA4.mp e
  cases e
  rfl
 | _=>cases e
theorem zK1 {X':Cx}{sc':Sc} (h:XOk X' sc' ar cl k) {x:Str} (g:sc'.names.lookup x=some .local∨sc'.names.lookup x=some .cell∧X'.fn x=true):Loc X'.env.scope x∧(X'.fn x=true∨X'.env.scope.names.lookup x=some .local):=by
 rcases g with g | ⟨g,f⟩
 ·exact ⟨.inl (h.loc x g),.inr (h.loc x g)⟩
 ·exact ⟨.inr (h.cel x g),.inl f⟩
theorem zW8 {X':Cx}{sc':Sc} (h:XOk X' sc' ar cl k) {tg:Expr}{t:Tgt}{xs:List Str} (e:zKR tg=some (t,xs)) (hN:∀ (i:Nat) (x:Str),xs[i]?=some x→sc'.N[i]?=some x∧(sc'.names.lookup x=some .local∨sc'.names.lookup x=some .cell∧X'.fn x=true)):PG X' tg (tOfT' X'.K t)∧tgtK t=xs.length:=by
 have nd:X'.N.Nodup:=by rw [h.N]; exact h.nd
 cases tg with
 | Name x pos =>
  cases e
  obtain ⟨g1,g2⟩:=hN 0 x rfl
  obtain ⟨l1,l2⟩:=zK1 h g2
  exact ⟨zGL nd (by rw [h.N]; exact g1) l1 l2,rfl⟩
 | Tuple es n pos =>
  unfold zKR at e
  obtain ⟨ys,e1,e⟩:=qA4.mp e
  cases e
  obtain ⟨a1,a2⟩:=zCM (env:=X'.env) e1
  obtain ⟨n1,n2⟩:=zEZ e1
  refine ⟨?_,rfl⟩
  have:=zHL (X:=X') (es:=es) (s:=0) (fun i e he=>by
   obtain ⟨x,pos,rfl,g⟩:=n2 i e he
   obtain ⟨g1,g2⟩:=hN i x g
   obtain ⟨l1,l2⟩:=zK1 h g2
   exact ⟨x,pos,rfl,by rw [h.N,qM8]; exact g1,l1,l2⟩) nd
  rw [n1] at this
  exact zQ1 h.calm this a1 a2
 | _=>cases e
theorem zQh (h:XOk X sc ar cl k) {xs:List Str}{scope:Scope}{js:List Nat} (hc:compOk sc xs scope=true) (e1:slots sc.N (zAP scope.names)=some js):zLQ X scope (xs++zAP scope.names) xs.length js:=by
 obtain ⟨l1,l2⟩:=zHy e1
 unfold compOk at hc
 simp only [qC9,decide_eq_true_eq] at hc
 obtain ⟨⟨⟨⟨⟨⟨c1,c2⟩,c3⟩,c4⟩,c5⟩,c6⟩,c7⟩:=hc
 have hf7:∀ x,(x,NameKind.free)∈scope.names→(sc.names.lookup x=some .cell∨sc.names.lookup x=some .free)∧scope.names.lookup x=some .free:=fun x hx=>by
  have hm:x∈zAP scope.names:=by
   unfold zAP
   rw [qC8]
   exact ⟨(x,.free),by rw [qE4]; exact ⟨hx,by simp⟩,rfl⟩
  have:=qC2.mp c7 x hm
  simpa using this
 refine ⟨h.calm,c1,fun x hx=>?_,fun x hx=>?_,fun x hx hxl=>?_,?_,fun i j hj=>?_⟩
 ·have:=qC2.mp c2 _ hx
  simpa using this
 ·rcases (hf7 x hx).1 with q | q
  ·exact .inl (h.cel x q)
  ·exact h.fre x q
 ·have:=qC2.mp c3 x hx
  simp only [qF8,bne_iff_ne,ne_eq,beq_iff_eq] at this
  rcases this with z | z
  ·exact absurd hxl z
  ·exact z
 ·rw [qB2,l1]
 ·obtain ⟨x,g1,g2⟩:=l2 i j hj
  have hm:(x,NameKind.free)∈scope.names:=by
   have:=qB5 g1
   unfold zAP at this
   rw [qC8] at this
   obtain ⟨⟨y,ky⟩,m1,m2⟩:=this
   rw [qE4] at m1
   dsimp only at m2
   subst m2
   have:ky=.free:=by simpa using m1.2
   subst this
   exact m1.1
  obtain ⟨v1,v2⟩:=hf7 x hm
  refine ⟨x,?_,by rw [h.N]; exact g2,v2,h.vis (.inr v1)⟩
  rw [qA0 (by omega),qK6]; exact g1
theorem zQg (h:XOk X sc ar cl k) {xs:List Str}{scope:Scope}{tg:Expr}{t:Tgt} (hc:compOk sc xs scope=true) (e0:zKR tg=some (t,xs)) (cl':List (Str × Addr)) (s:Shared) (H:Hp) (C:Addr) (ex:List Addr):PG (zBe X scope (xs++zAP scope.names) cl' s H C ex) tg (tOfT' X.K t) :=
 (zW8 (h.comp hc cl' s H C ex) e0 fun i x hx=>by
  unfold compOk at hc
  simp only [qC9,decide_eq_true_eq] at hc
  have c5:=hc.1.1.2
  have hl:=(qA1.mp hx).1
  refine ⟨?_,?_⟩
  ·show (xs++zAP scope.names)[i]?=some x
   rw [qA7 hl]; exact hx
  ·have:=qC2.mp c5 x (qB5 hx)
   rw [qF8,beq_iff_eq,beq_iff_eq] at this
   rcases this with z | z
   ·exact .inl z
   ·exact .inr ⟨z,decide_eq_true (zPb z)⟩).1
inductive zVg (X:Cx) (sc:Sc) (tg iter elt:Expr) (ifs:List Expr) (scope:Scope) (c:C):Prop
 | mk (t:Tgt) (xs:List Str) (js:List Nat) (ci:CI) (ct:CT) (ce:C) (B:zLQ X scope (xs++zAP scope.names) xs.length js) (hi:PI X tg iter (tOfI X.K ci)) (hs:zJ9 iter=false)
  (hg:∀ cl' s H C ex,PG (zBe X scope (xs++zAP scope.names) cl' s H C ex) tg (tOfT' X.K t)) (hT:∀ cl' s H C ex,PTs (zBe X scope (xs++zAP scope.names) cl' s H C ex) ifs (tOfT X.K ct))
  (hE:∀ cl' s H C ex,PE (zBe X scope (xs++zAP scope.names) cl' s H C ex) elt (tOf X.K ce)) (ht:tgtK t≤xs.length) (h1:1≤xs.length) (hc:c=zBJ ci xs.length js t ct ce)
theorem zNK (h:XOk X sc ar cl k) {it:Option CI}{fe:Sc→Expr→Option C}{ft:Sc→Expr→Option CT}{tg iter elt:Expr}{ifs:List Expr}{scope:Scope}{c:C} (e:zFw sc it fe ft tg elt ifs scope=some c)
  (hi:∀ ci,it=some ci→PI X tg iter (tOfI X.K ci)∧zJ9 iter=false) (hfe:∀ X' sc',XOk X' sc' ar cl k→zD6 X' (fe sc')) (hft:∀ X' sc',XOk X' sc' ar cl k→zIK X' (ft sc')):zVg X sc tg iter elt ifs scope c:=by
 unfold zFw at e
 obtain ⟨⟨t,xs⟩,e0,e⟩:=qA3.mp e
 dsimp only at e
 by_cases hc:compOk sc xs scope=true
 ·rw [if_pos hc] at e
  obtain ⟨js,e1,u1⟩:=qA3.mp e
  obtain ⟨ci,e2,u2⟩:=qA3.mp u1
  obtain ⟨ce,e3,u3⟩:=qA3.mp u2
  clear e u1 u2
  obtain ⟨i1,i2⟩:=hi ci e2
  have c6:1≤xs.length:=by
   have hc':=hc
   unfold compOk at hc'
   simp only [qC9,decide_eq_true_eq] at hc'
   exact hc'.1.2
  have hE:=fun cl' s H C ex=>hfe _ _ (h.comp hc cl' s H C ex) elt ce e3
  have ht:tgtK t≤xs.length:=by rw [zQv e0]; exact qB0 _
  cases ifs with
  | nil =>
   cases u3
   exact ⟨t,xs,js,ci,_,ce,zQh h hc e1,i1,i2,zQg h hc e0,fun cl' s H C ex pins s' σ H' Q I ⟨μ,ρ,S,d,S',sr,re,e,y⟩=>zR7 pins s' σ H' Q I (by obtain ⟨rfl,rfl⟩:=zAl e; exact y H' μ sr (Step.refl _ _ _)),hE,ht,c6,rfl⟩
  | cons q r =>
   cases r with
   | nil =>
    obtain ⟨ct,e4,u4⟩:=qA4.mp u3
    exact ⟨t,xs,js,ci,ct,ce,zQh h hc e1,i1,i2,zQg h hc e0,fun cl' s H C ex=>zR6 (hft _ _ (h.comp hc cl' s H C ex) q ct e4),hE,ht,c6,u4.symm⟩
   | cons _ _=>cases u3
 ·rw [if_neg hc] at e; cases e
theorem zQV (h:XOk X sc ar cl k) {it:Option CI}{fe:Sc→Expr→Option C}{ft:Sc→Expr→Option CT}{tg iter elt:Expr}{ifs:List Expr}{scope:Scope}{pos:Pos}{c:C} (e:zFw sc it fe ft tg elt ifs scope=some c)
  (hi:∀ ci,it=some ci→PI X tg iter (tOfI X.K ci)∧zJ9 iter=false) (hfe:∀ X' sc',XOk X' sc' ar cl k→zD6 X' (fe sc')) (hft:∀ X' sc',XOk X' sc' ar cl k→zIK X' (ft sc')):PE X (.ListComp elt [⟨tg,iter,ifs,0⟩] scope pos) (tOf X.K c):=by
 obtain ⟨t,xs,js,ci,ct,ce,B,i1,i2,hg,hT,hE,ht,h1,rfl⟩:=zNK h e hi hfe hft
 exact (zRk B i1 hg hT hE (zFl i2)).weak fun σ H Q q=>zMJ ht h1 q
theorem zOC (h:XOk X sc ar cl k) {it:Option CI}{fe:Sc→Expr→Option C}{ft:Sc→Expr→Option CT}{tg iter elt:Expr}{ifs:List Expr}{scope:Scope}{pos pos' spos:Pos}{y0:Str}{go:TG} (hgo:PG X (.Name y0 pos') go) (hsw:swapsWith (.ListComp elt [⟨tg,iter,ifs,0⟩] scope pos) (some (.Name y0 pos')) spos.line X.env=pure true) {c:C} (e:zFw sc it fe ft tg elt ifs scope=some c)
  (hi:∀ ci,it=some ci→PI X tg iter (tOfI X.K ci)∧zJ9 iter=false) (hfe:∀ X' sc',XOk X' sc' ar cl k→zD6 X' (fe sc')) (hft:∀ X' sc',XOk X' sc' ar cl k→zIK X' (ft sc')):PS X (.Assign [.Name y0 pos'] (.ListComp elt [⟨tg,iter,ifs,0⟩] scope pos) spos) (tAsg (tOf X.K c) go):=by
 obtain ⟨t,xs,js,ci,ct,ce,B,i1,i2,hg,hT,hE,ht,h1,rfl⟩:=zNK h e hi hfe hft
 exact (zKZ hgo hsw B i1 hg hT hE (zFl i2)).weak fun D σ H q=>zMJ ht h1 q
end
open PySem PySem.Spec PyProof.Rows
section
variable (ar:Str→Option Nat) (cl:Str→List D→M D)
mutual
noncomputable def cE:Nat→Sc→Expr→Option C
 | 0,_,_=>none
 | n+1,sc,e=>match e with
  | .Constant v _ _=>zQj v
  | .Name x _=>zSf sc ar x
  | .BinOp a op b _=>(zU0 op).bind fun o=>(cE n sc a).bind fun ca=>(cE n sc b).map fun cb=>cBin o ca cb
  | .UnaryOp op a _=>match op with
   | .USub=>(cE n sc a).map fun ca=>cUn oNeg ca
   | .Not=>(cE n sc a).map fun ca=>zPH ca
   | _=>none
  | .BoolOp op vs _=>zKG op (cE n sc) vs
  | .IfExp t a b _=>(cT n sc t).bind fun ct=>(cE n sc a).bind fun ca=>(cE n sc b).map fun cb=>cIf ct ca cb
  | .Compare a ops bs _=>zE3 (cE n sc) a ops bs
  | .Tuple es _ _=>(zA1? (cE n sc) es).bind fun cs=>if cs.length≤1000 then some (cTup (zA1 cs)) else none
  | .List es _=>(zA1? (cE n sc) es).bind fun cs=>if cs.length≤1000 then some (cLst (zA1 cs)) else none
  | .Subscript a b _=>cSub (cE n sc) a b
  | .Dict ks vs _=>zSg (cE n sc) ks vs
  | .Call fn es kw cpos=>match kw with
   | []=>match fn with
    | .Name x _=>zO5 sc ar cl (cE n sc) x es
    | .Attribute o m apos=>zJI (cE n sc) o m es apos cpos
    | _=>none
   | _::_=>none
  | .ListComp elt gens scope _=>match gens with
   | [⟨tg,iter,ifs,ia⟩]=>if ia=0 then zFw sc (zLF sc ar (cE n sc) tg iter) (cE n) (cT n) tg elt ifs scope else none
   | _=>none
  | _=>none
noncomputable def cT:Nat→Sc→Expr→Option CT
 | 0,_,_=>none
 | n+1,sc,e=>match e with
  | .UnaryOp op a _=>match op with
   | .Not=>(cT n sc a).map fun ca=>zIt ca
   | _=>(cE n sc e).map cTru
  | .BoolOp op vs _=>zKH op (cT n sc) vs
  | .IfExp _ _ _ _=>none
  | .Compare a ops bs _=>zGB (cE n sc) a ops bs
  | _=>(cE n sc e).map cTru
end
end
section
variable {X:Cx}{sc:Sc}{ar:Str→Option Nat}{cl:Str→List D→M D}{k:Nat}
theorem zKY:∀ n:Nat,(∀ X sc,XOk X sc ar cl k→zD6 X (cE ar cl n sc))∧(∀ X sc,XOk X sc ar cl k→zIK X (cT ar cl n sc))
 | 0=>⟨fun X sc h e c q=>(by cases q),fun X sc h e c q=>(by cases q)⟩
 | n+1=>by
  obtain ⟨ihE,ihT⟩:=zKY n
  refine ⟨fun X sc h e c q=>?_,fun X sc h e c q=>?_⟩
  ·have hf:=ihE X sc h
   have ht:=ihT X sc h
   cases e with
   | Constant v j pos=>exact zQU q
   | Name x pos=>exact zTb h q
   | BinOp a op b pos =>
    obtain ⟨o,e0,q1⟩:=qA3.mp q
    obtain ⟨ca,e1,q2⟩:=qA3.mp q1
    obtain ⟨cb,e2,q3⟩:=qA4.mp q2
    subst q3
    exact zT7 (s_op e0) (hf _ _ e1) (hf _ _ e2)
   | UnaryOp op a pos =>
    cases op with
    | USub =>
     obtain ⟨ca,e1,q2⟩:=qA4.mp q
     subst q2
     exact zW5 zSz (hf _ _ e1)
    | Not =>
     obtain ⟨ca,e1,q2⟩:=qA4.mp q
     subst q2
     exact zT4 (hf _ _ e1)
    | _=>cases q
   | BoolOp op vs pos=>exact zIU hf q
   | IfExp t a b pos =>
    obtain ⟨ct,e0,q1⟩:=qA3.mp q
    obtain ⟨ca,e1,q2⟩:=qA3.mp q1
    obtain ⟨cb,e2,q3⟩:=qA4.mp q2
    subst q3
    exact zOy (ht _ _ e0) (hf _ _ e1) (hf _ _ e2)
   | Compare a ops bs pos=>exact zMp h.room hf q
   | Tuple es j pos =>
    obtain ⟨cs,e1,q1⟩:=qA3.mp q
    split at q1
    ·rename_i hl; cases q1; exact zT3 (zDq hf e1).1 hl
    ·cases q1
   | List es pos =>
    obtain ⟨cs,e1,q1⟩:=qA3.mp q
    split at q1
    ·rename_i hl; cases q1; exact zT5 (zDq hf e1).1 hl
    ·cases q1
   | Subscript a b pos=>exact zW9 h.room hf q
   | Dict ks vs pos=>exact zTc hf q
   | Call fn es kw cpos =>
    cases kw with
    | cons _ _=>cases q
    | nil =>
     cases fn with
     | Name x p=>exact zQW h hf q
     | Attribute o m apos=>exact zOB h.room hf q
     | _=>cases q
   | ListComp elt gens scope pos =>
    cases gens with
    | nil=>cases q
    | cons g gs =>
     obtain ⟨tg,iter,ifs,ia⟩:=g
     cases gs with
     | cons _ _=>cases q
     | nil =>
      change (if ia=0 then zFw sc (zLF sc ar (cE ar cl n sc) tg iter) (cE ar cl n) (cT ar cl n) tg elt ifs scope else none)=some c at q
      split at q
      ·rename_i hz
       subst hz
       exact zQV h q (fun ci e=>zMo h hf e) (fun X' sc' h'=>ihE X' sc' h') (fun X' sc' h'=>ihT X' sc' h')
      ·cases q
   | _=>cases q
  ·have hf:=ihE X sc h
   have ht:=ihT X sc h
   have dflt:∀ {c:CT},(cE ar cl n sc e).map cTru=some c→(∀ whole,isTrue e X.env whole=(do let v ← whole; standAt e.pos; holding [v] (truthy v)))→PT X e (tOfT X.K c):=fun {c} q he=>by
    obtain ⟨ca,e1,q2⟩:=qA4.mp q
    subst q2
    exact zSL (hf _ _ e1) he
   cases e with
   | UnaryOp op a pos =>
    cases op with
    | Not =>
     obtain ⟨ca,e1,q2⟩:=qA4.mp q
     subst q2
     exact zSM (ht _ _ e1)
    | USub=>exact dflt q fun _=>rfl
    | UAdd=>exact dflt q fun _=>rfl
    | Invert=>exact dflt q fun _=>rfl
   | BoolOp op vs pos=>exact (zIV ht q).pt
   | IfExp t a b pos=>cases q
   | Compare a ops bs pos=>exact zKW h.room hf q
   | _=>exact dflt q fun _=>rfl
section
variable (ar:Str→Option Nat) (cl:Str→List D→M D)
noncomputable def cTg (sc:Sc) (x:Str):Option G:=(zEv sc.N x 0).bind fun i=>if sc.names.lookup x=some .local∨(sc.fn.isSome=true∧sc.names.lookup x=some .cell) then some (gN i) else none
mutual
noncomputable def cG:Nat→Sc→Expr→Option G
 | 0,_,_=>none
 | n+1,sc,e=>match e with
  | .Name x _=>cTg sc x
  | .Subscript a b _=>match b with
   | _=>if zFb b then none else (cE ar cl n sc a).bind fun ca=>(cE ar cl n sc b).map fun cb=>gS ca cb
  | .Tuple es _ _=>(cGs n sc es).map fun gs=>gT gs
  | _=>none
noncomputable def cGs:Nat→Sc→List Expr→Option (List G)
 | 0,_,_=>none
 | n+1,sc,es=>match es with
  | []=>some []
  | e::r=>if zAM e then (cG n sc e).bind fun g=>(cGs n sc r).map fun gs=>g::gs else none
end
end
theorem XOk.nd' (h:XOk X sc ar cl k):X.N.Nodup:=by rw [h.N]; exact h.nd
theorem s_tg (h:XOk X sc ar cl k) {x:Str}{g:G} (e:cTg sc x=some g):∃ i,g=gN i∧X.N[i]?=some x∧Loc X.env.scope x∧(X.fn x=true∨X.env.scope.names.lookup x=some .local):=by
 unfold cTg at e
 obtain ⟨i,e1,e2⟩:=qA3.mp e
 split at e2
 ·rename_i hc
  cases e2
  refine ⟨i,rfl,by rw [h.N]; exact (zDb e1).2,?_⟩
  rcases hc with q | ⟨q1,q2⟩
  ·exact ⟨.inl (h.loc x q),.inr (h.loc x q)⟩
  ·exact ⟨.inr (h.cel x q2),.inl (h.fnn q1 x)⟩
 ·cases e2
theorem zLM {a b:Expr}{pos:Pos}{env:Env} (h:zFb b=false):∀ v,assign (.Subscript a b pos) env v=(do
   let ov ← holding [v] (eval a env)
   let iv ← holding [v,ov] (eval b env)
   standAt pos
   holding [v,ov,iv] (setItem ov iv v)
   release [v,ov,iv] []):=by
 cases b <;> first | (intro v; rfl) | cases h
theorem zC5 {e:Expr}{es:List Expr}{env:Env} (h:zAM e=true):assignEach (e::es) env=(false,assign e env)::assignEach es env:=by
 cases e <;> first | rfl | cases h
theorem s_G:∀ n:Nat,(∀ X sc,XOk X sc ar cl k→∀ e g,cG ar cl n sc e=some g→PG X e (tOfG X.K g))∧(∀ X sc,XOk X sc ar cl k→∀ es gs,cGs ar cl n sc es=some gs→PGs X es (zMa X.K gs)∧(assignEach es X.env).length=gs.length∧(assignEach es X.env).findIdx? (·.1)=none)
 | 0=>⟨fun X sc h e c q=>(by cases q),fun X sc h e c q=>(by cases q)⟩
 | n+1=>by
  obtain ⟨ih,ihs⟩:=s_G n
  refine ⟨fun X sc h e g q=>?_,fun X sc h es gs q=>?_⟩
  ·cases e with
   | Name x pos =>
    obtain ⟨i,rfl,h1,h2,h3⟩:=s_tg h q
    exact zQO (zGL h.nd' h1 h2 h3)
   | Subscript a b pos =>
    change (if zFb b then none else (cE ar cl n sc a).bind fun ca=>(cE ar cl n sc b).map fun cb=>gS ca cb)=_ at q
    split at q
    ·cases q
    ·rename_i hs
     obtain ⟨ca,e1,q1⟩:=qA3.mp q
     obtain ⟨cb,e2,q2⟩:=qA4.mp q1
     subst q2
     exact zT0 (zPu h.room) ((zKY n).1 X sc h _ _ e1) ((zKY n).1 X sc h _ _ e2) (zLM (by simpa using hs))
   | Tuple es j pos =>
    obtain ⟨gs,e1,q1⟩:=qA4.mp q
    subst q1
    obtain ⟨h1,h2,h3⟩:=ihs X sc h es gs e1
    exact zSZ h.calm h1 h2 h3
   | _=>cases q
  ·cases es with
   | nil=>cases q; exact ⟨zQN,rfl,rfl⟩
   | cons e r =>
    change (if zAM e=true then (cG ar cl n sc e).bind fun g=>(cGs ar cl n sc r).map fun gs=>g::gs else none)=_ at q
    split at q
    ·rename_i hs
     obtain ⟨g,e1,q1⟩:=qA3.mp q
     obtain ⟨gs',e2,q2⟩:=qA4.mp q1
     subst q2
     obtain ⟨h1,h2,h3⟩:=ihs X sc h r gs' e2
     have ha:=zC5 (es:=r) (env:=X.env) hs
     refine ⟨zOt (ih X sc h e g e1) h1 (by rw [ha]; rfl),by rw [ha]; simp [h2],by rw [ha,qQ7]; simp [h3]⟩
    ·cases q
noncomputable def zHS:Expr→Bool
 | .ListComp _ _ _ _=>true
 | .SetComp _ _ _ _=>true
 | .DictComp _ _ _ _ _=>true
 | _=>false
theorem zK3 {e:Expr}{t:Option Expr}{n:Nat}{env:Env} (h:zHS e=false):swapsWith e t n env=pure false:=by
 cases e <;> first | rfl | cases h
noncomputable def zJv:Expr→Expr→Bool
 | .Name _ _,.ListComp _ _ _ _=>false
 | .Tuple _ _ _,.ListComp _ _ _ _=>false
 | _,e=>zHS e
theorem zMq (h:XOk X sc ar cl k):∀ {n:Nat}{elt:Expr}{gens:List Comprehension}{scope:Scope}{pos pos' spos:Pos}{x:Str}{c:C}{i:Nat} (q:cE ar cl n sc (.ListComp elt gens scope pos)=some c) (hgo:PG X (.Name x pos') (zJk i))
  (hsw:swapsWith (.ListComp elt gens scope pos) (some (.Name x pos')) spos.line X.env=pure true),PS X (.Assign [.Name x pos'] (.ListComp elt gens scope pos) spos) (tAsg (tOf X.K c) (zJk i))
 | 0,_,_,_,_,_,_,_,_,_,q,_,_=>by cases q
 | n+1,elt,gens,scope,pos,pos',spos,x,c,i,q,hgo,hsw=>by
  obtain ⟨ihE,ihT⟩:=zKY (ar:=ar) (cl:=cl) (k:=k) n
  cases gens with
  | nil=>cases q
  | cons g gs =>
   obtain ⟨tg,iter,ifs,ia⟩:=g
   cases gs with
   | cons _ _=>cases q
   | nil =>
    change (if ia=0 then zFw sc (zLF sc ar (cE ar cl n sc) tg iter) (cE ar cl n) (cT ar cl n) tg elt ifs scope else none)=some c at q
    split at q
    ·rename_i hz
     subst hz
     exact zOC h hgo hsw q (fun ci e=>zMo h (ihE X sc h) e) (fun X' sc' h'=>ihE X' sc' h') (fun X' sc' h'=>ihT X' sc' h')
    ·cases q
theorem zKS {elt:Expr}{gens:List Comprehension}{scope:Scope}{pos pos':Pos}{x:Str}{line:Nat}{env:Env}:∃ b:Bool,swapsWith (.ListComp elt gens scope pos) (some (.Name x pos')) line env=pure b:=⟨_,rfl⟩
inductive CB (tg e:Expr):Prop
 | no (h:∀ n env,swapsWith e (some tg) n env=pure false)
 | yes (x:Str) (pos':Pos) (elt:Expr) (gens:List Comprehension) (scope:Scope) (pos:Pos) (h1:tg=.Name x pos') (h2:e=.ListComp elt gens scope pos)
theorem CB.of {tg e:Expr} (h:zHS e=false):CB tg e:=.no fun _ _=>zK3 h
theorem zLx {tg e:Expr} (h:zJv tg e=false):CB tg e:=by
 cases tg with
 | Name x pos' =>
  cases e with
  | ListComp elt gens scope pos=>exact .yes x pos' elt gens scope pos rfl rfl
  | _=>exact .of h
 | Tuple es k pos =>
  cases e with
  | ListComp elt gens scope pos=>exact .no fun _ _=>rfl
  | _=>exact .of h
 | _=>exact .of h
noncomputable def zPm:Expr→Bool
 | .List _ _=>true
 | _=>false
theorem zG4 {tg e:Expr}{env:Env} (h:(zAO tg&&zAO e)=false) (hl:zPm tg=false):swappedStores [tg] e env=pure none:=by
 cases tg with
 | Tuple es n pos=>cases e <;> first | rfl | cases h
 | List es pos=>cases hl
 | _=>rfl
noncomputable def zEa (sc:Sc):Expr→Bool
 | .Tuple [.Name x _,.Name y _] _ _=>sc.names.lookup x == some .cell||sc.names.lookup y == some .cell
 | _=>false
theorem zIT {tg:Expr} (h:zEa sc tg=true):∃ x px y py k pos,tg=.Tuple [.Name x px,.Name y py] k pos∧(sc.names.lookup x=some .cell∨sc.names.lookup y=some .cell):=by
 unfold zEa at h
 split at h
 ·rename_i x px y py k pos
  simp only [qF8,beq_iff_eq] at h
  exact ⟨x,px,y,py,k,pos,rfl,h⟩
 ·cases h
theorem zHv {x y:Str}{px py pos pos2:Pos}{k k2:Nat}{vs:List Expr}{env:Env} (h:env.scope.names.lookup x=some .cell∨env.scope.names.lookup y=some .cell):swappedStores [.Tuple [.Name x px,.Name y py] k pos] (.Tuple vs k2 pos2) env=pure none:=by
 have hn:(([Expr.Name x px,Expr.Name y py].filterMap fun e=>match e with
  | .Name id p=>if (env.kindOf id == some NameKind.local&&p.line == (([Expr.Name x px,Expr.Name y py].head?.map (·.pos.line)).getD 0))=true then some id else none
  | _=>none).length != 2)=true:=by
  have kx:env.kindOf x=env.scope.names.lookup x:=rfl
  have ky:env.kindOf y=env.scope.names.lookup y:=rfl
  have hc:(some NameKind.cell == some NameKind.local)=false:=by decide
  rcases h with h | h
  ·simp only [qH3,qQ8,kx,h,hc,qP4,qD9,if_false]
   split <;> rfl
  ·simp only [qH3,qQ8,ky,h,hc,qP4,qD9,if_false]
   split <;> rfl
 unfold swappedStores
 simp only [pure_bind]
 split
 ·rfl
 ·split
  ·rfl
  ·rw [if_pos]
   show (_||_)=true
   rw [qF8]
   exact .inl hn
theorem zER (h:XOk X sc ar cl k) {tg e:Expr} (c2:(zAO tg&&zAO e&&!zEa sc tg)=false) (c3:zPm tg=false):swappedStores [tg] e X.env=pure none:=by
 cases hc:zEa sc tg with
 | false =>
  rw [hc] at c2
  exact zG4 (by simpa using c2) c3
 | true =>
  obtain ⟨x,px,y,py,kk,pos,rfl,hxy⟩:=zIT hc
  cases he:zAO e with
  | false=>exact zG4 (by rw [he]; rfl) c3
  | true =>
   obtain ⟨vs,k2,pt2,rfl⟩:=zN7 he
   exact zHv (hxy.imp (h.cel x) (h.cel y))
noncomputable def zWr (sc:Sc) (t v:Expr × Expr) (n:Str × Str):Option (Nat × Nat × Expr × Expr) :=
 if n.1≠n.2∧sc.names.lookup n.1=some .local∧sc.names.lookup n.2=some .local∧t.1.pos.line=t.2.pos.line∧zAM v.1=true∧zAM v.2=true∧([v.1,v.2].all (foldedForSure 8))=false∧([v.1,v.2].all (constantsAlone 8))=false then
  (zEv sc.N n.1 0).bind fun i=>(zEv sc.N n.2 0).map fun j=>(i,j,v.1,v.2)
 else none
noncomputable def zIO:Nat:=100000
section
variable (ar:Str→Option Nat) (cl:Str→List D→M D)
mutual
noncomputable def cSt:Nat→Sc→Stmt→Option CS
 | 0,_,_=>none
 | n+1,sc,s=>match s with
  | .Return v _=>match v with
   | none=>some zQY
   | some e=>(cE ar cl n sc e).map fun c=>sRet c
  | .Expr e _=>if zHS e then none else (cE ar cl n sc e).map fun c=>zDv c
  | .Assign tgs e _=>match tgs with
   | [tg] =>
    if zJv tg e||(zAO tg&&zAO e&&!zEa sc tg)||zPm tg||!zAM tg then none else (cE ar cl n sc e).bind fun c=>(cG ar cl n sc tg).map fun g=>sAsg c g
   | _=>none
  | .If t a b _=>(cT ar cl n sc t).bind fun ct=>(cSts n sc a).bind fun ca=>(cSts n sc b).map fun cb=>sIf ct ca cb
  | .For tg it body els _=>match els with
   | []=>(zLF sc ar (cE ar cl n sc) tg it).bind fun ci=>(cG ar cl n sc tg).bind fun g=>(cSts n sc body).map fun cb=>sFor ci g cb
   | _::_=>none
  | .While t body els _=>match els with
   | []=>(cT ar cl n sc t).bind fun ct=>(cSts n sc body).map fun cb=>zCK zIO ct cb
   | _::_=>none
  | .Pass _=>some zA5
  | .Break _=>some sBrk
  | .Continue _=>some sCnt
  | .Raise _ _ _=>some sBad
  | _=>none
noncomputable def cSts:Nat→Sc→List Stmt→Option CS
 | 0,_,_=>none
 | n+1,sc,ss=>match ss with
  | []=>some zA5
  | s::r=>(cSt n sc s).bind fun c=>(cSts n sc r).map fun d=>sSeq c d
end
end
inductive ParE (sc:Sc) (tg e:Expr) (r:Nat × Nat × Expr × Expr):Prop
 | mk (x y:Str) (px py pt pt2:Pos) (kt k2:Nat) (v1 v2:Expr) (h1:tg=.Tuple [.Name x px,.Name y py] kt pt) (h2:e=.Tuple [v1,v2] k2 pt2) (hp:zWr sc (.Name x px,.Name y py) (v1,v2) (x,y)=some r)
theorem zMA (h:XOk X sc ar cl k):PassesOwn (model X.prog X.w) X.A X.env X.xe:=by rw [h.xe]; exact PassesOwn.never
theorem s_St:∀ n:Nat,(∀ X sc,XOk X sc ar cl k→∀ s c,cSt ar cl n sc s=some c→PS X s (tOfS X c))∧(∀ X sc,XOk X sc ar cl k→∀ s c,cSts ar cl n sc s=some c→PSs X s (tOfS X c))
 | 0=>⟨fun X sc h e c q=>(by cases q),fun X sc h e c q=>(by cases q)⟩
 | n+1=>by
  obtain ⟨ih,ihs⟩:=s_St n
  refine ⟨fun X sc h s c q=>?_,fun X sc h ss c q=>?_⟩
  ·have hf:=(zKY (ar:=ar) (cl:=cl) (k:=k) n).1 X sc h
   have ht:=(zKY (ar:=ar) (cl:=cl) (k:=k) n).2 X sc h
   have hg:=(s_G (ar:=ar) (cl:=cl) (k:=k) n).1 X sc h
   cases s with
   | Return v pos =>
    cases v with
    | none=>cases q; exact zQC
    | some e =>
     obtain ⟨ce,e1,q1⟩:=qA4.mp q
     subst q1
     exact zSP (hf _ _ e1)
   | Expr e pos =>
    change (if zHS e=true then none else (cE ar cl n sc e).map fun c=>zDv c)=some c at q
    split at q
    ·cases q
    ·rename_i hc
     obtain ⟨ce,e1,q1⟩:=qA4.mp q
     subst q1
     exact zQE (hf _ _ e1) (zK3 (by simpa using hc))
   | Assign tgs e pos =>
    cases tgs with
    | nil=>cases q
    | cons tg r =>
     cases r with
     | cons _ _=>cases q
     | nil =>
      change (if zJv tg e||(zAO tg&&zAO e&&!zEa sc tg)||zPm tg||!zAM tg then none else (cE ar cl n sc e).bind fun c=>(cG ar cl n sc tg).map fun g=>sAsg c g)=some c at q
      split at q
      ·cases q
      ·rename_i hc
       simp only [qF8,not_or,qS3,qI2,Bool.not_eq_false] at hc
       obtain ⟨⟨⟨c1,c2⟩,c3⟩,c4⟩:=hc
       obtain ⟨ce,e1,q1⟩:=qA3.mp q
       obtain ⟨g,e2,q2⟩:=qA4.mp q1
       subst q2
       rcases zLx c1 with c1 | ⟨x,px,elt,gens,scope,pc,rfl,rfl⟩
       ·refine zPV (hf _ _ e1) (hg _ _ e2) (c1 _ _) (zER h c2 c3) ?_
        rw [zC5 (by simpa using c4)]; rfl
       ·obtain ⟨b,hb⟩:=zKS (elt:=elt) (gens:=gens) (scope:=scope) (pos:=pc) (pos':=px) (x:=x) (line:=pos.line) (env:=X.env)
        cases b with
        | false=>exact zPV (hf _ _ e1) (hg _ _ e2) hb (zER h c2 c3) (by rw [zC5 (by simpa using c4)]; rfl)
        | true =>
         cases n with
         | zero=>cases e2
         | succ n =>
          obtain ⟨i,rfl,h1,h2,h3⟩:=s_tg h e2
          exact zSO (zMq h e1 (zGL h.nd' h1 h2 h3) hb)
   | If t a b pos =>
    obtain ⟨ct,e0,q1⟩:=qA3.mp q
    obtain ⟨ca,e1,q2⟩:=qA3.mp q1
    obtain ⟨cb,e2,q3⟩:=qA4.mp q2
    subst q3
    exact zW3 (ht _ _ e0) (ihs X sc h _ _ e1) (ihs X sc h _ _ e2)
   | For tg it body els pos =>
    cases els with
    | cons _ _=>cases q
    | nil =>
     obtain ⟨ci,e0,q1⟩:=qA3.mp q
     obtain ⟨g,e1,q2⟩:=qA3.mp q1
     obtain ⟨cb,e2,q3⟩:=qA4.mp q2
     subst q3
     obtain ⟨i1,i2⟩:=zMo h hf e0
     exact zSQ (zMA h) h.calm i1 (hg _ _ e1) (ihs X sc h _ _ e2) (zFl i2)
   | While t body els pos =>
    cases els with
    | cons _ _=>cases q
    | nil =>
     obtain ⟨ct,e0,q1⟩:=qA3.mp q
     obtain ⟨cb,e2,q3⟩:=qA4.mp q1
     subst q3
     exact zOs zIO (zMA h) (ht _ _ e0) (ihs X sc h _ _ e2)
   | Pass pos=>cases q; exact zQD
   | Break pos=>cases q; exact zSS
   | Continue pos=>cases q; exact zSR
   | Raise a b pos=>cases q; exact zST
   | _=>cases q
  ·cases ss with
   | nil=>cases q; exact zQB
   | cons s r =>
    obtain ⟨c1,e1,q1⟩:=qA3.mp q
    obtain ⟨c2,e2,q2⟩:=qA4.mp q1
    subst q2
    exact zOr (ih X sc h _ _ e1) (ihs X sc h _ _ e2)
noncomputable def zAu (n:Nat) (ds:List D):Env1:=ds.map some++qJ8 (n - ds.length) none
noncomputable def runF (np nN:Nat) (b:CS):List D→M D:=fun ds S=>if ds.length=np then (match b (zAu nN ds) S with
 | .nx _ S'=>.ok .non S'
 | .rt d S'=>.ok d S'
 | .er c S'=>.er c S'
 | _=>.bad) else .bad
theorem RVs.begins {K:W.Frag}{H:Hp}{μ:List Addr}{N:List Str}{ds:List D}{vs:List V} (r:RVs K H μ ds vs):RE K H μ (zAu N.length ds) (start N vs):=by
 unfold zAu start
 refine ⟨by simp [r.len],fun i d e=>?_⟩
 by_cases hi:i<ds.length
 ·rw [qA7 (by simpa using hi),qB7] at e
  rw [qA7 (by rw [qA2,← r.len]; exact hi),qB7]
  cases q:ds[i]? with
  | none=>rw [q] at e; cases e
  | some d' =>
   rw [q] at e; cases e
   obtain ⟨v,e1,e2⟩:=r.get q
   exact ⟨v,by rw [e1]; rfl,e2⟩
 ·rw [qA0 (by simpa using hi),qI6] at e
  split at e <;> cases e
noncomputable def fnOk (N ps:List Str) (scope:Scope):Bool :=
 decide (scope.kind=.function)&&!scope.isCoroutine&&!scope.isGenerator&&decide N.Nodup&&decide (N.take ps.length=ps)&&ps.all (fun x=>scope.names.lookup x == some .local||scope.names.lookup x == some .cell)&&scope.names.all (fun y=>y.2 != .free)
theorem zLl {N ps:List Str}{scope:Scope} (h:fnOk N ps scope=true):zHj N ps scope:=by
 unfold fnOk at h
 simp only [qC9,decide_eq_true_eq,qI2] at h
 obtain ⟨⟨⟨⟨⟨⟨c1,c2⟩,c3⟩,c4⟩,c5⟩,c6⟩,c7⟩:=h
 refine ⟨c1,c2,c3,c4,c5,fun x hx=>?_,fun y hy=>?_⟩
 ·have:=qC2.mp c6 x hx
  simpa using this
 ·have:=qC2.mp c7 y hy
  simpa using this
theorem s_fn {P:Program}{w:World}{K:W.Frag}{mg:Str→Option Value}{base:Heap}{x:Str}{st:Stmt}{fa:Addr}{fd:FuncData}{N ps:List Str}{fuel:Nat}{b:CS} (F:Fun K x x st fa fd)
  (hs:fnOk N ps (zA3 st)=true) (hc:cSts ar cl fuel ⟨N,(zA3 st).names,some x⟩ (zAJ st)=some b)
  (hB:MgOk ar mg)
  (ih:∀ y n,ar y=some n→(∃ ps,zGy P w K mg base y ps k (spOf K (cl y) n))∧∀ ds S d S',cl y ds S=.ok d S'→ds.length=n):FnOk P w K mg base CX0 (k+1) fa fd ps (spOf K (runF ps.length N.length b) ps.length):=by
 have S:=zLl hs
 refine F.ok (k:=k) S (fun vs H Q E h=>h.1) (fun cdv A outer s H vs Q E hr h=>?_)
 obtain ⟨hl,μ,ds,S0,d,S',sr,rv,e,y⟩:=h
 have hX:XOk (cxOf CX0 P w K mg base N x (zA3 st) fa cdv A outer s H E).nox ⟨N,(zA3 st).names,some x⟩ ar cl k:={
  calm:=rfl
  N:=rfl
  nd:=S.nd
  gl:=fun x hx=>hx
  loc:=fun x hx=>hx
  cel:=fun x hx=>hx
  fre:=fun x hx=>.inr hx
  fnn:=fun _ x=>rfl
  room:=hr
  xe:=rfl
  blt:=hB
  fns:=ih }
 refine ⟨_,(s_St fuel).2 _ _ hX _ _ hc,μ,zAu N.length ds,S0,sr,rv.begins,?_⟩
 unfold runF at e
 split at e
 ·split at e
  ·rename_i ρ S2 he
   cases e
   rw [he]
   exact fun σ' H' μ' sr' st' re'=>y _ H' μ' sr' st' zEU
  ·rename_i d' S2 he
   cases e
   rw [he]
   exact y
  ·cases e
  ·cases e
 ·cases e
theorem zWa {P:Program}{w:World}{K:W.Frag}{mg:Str→Option Value}{base:Heap}{x:Str}{st:Stmt}{fa:Addr}{fd:FuncData}{N ps:List Str}{fuel:Nat}{b:CS} (F:Fun K x x st fa fd) (m:mg x=some (.ref fa)) (hb:zHk K fd ps [])
  (hs:fnOk N ps (zA3 st)=true) (hc:cSts ar cl fuel ⟨N,(zA3 st).names,some x⟩ (zAJ st)=some b)
  (hB:MgOk ar mg)
  (ih:∀ y n,ar y=some n→(∃ ps,zGy P w K mg base y ps k (spOf K (cl y) n))∧∀ ds S d S',cl y ds S=.ok d S'→ds.length=n):zGy P w K mg base x ps (k+1) (spOf K (runF ps.length N.length b) ps.length) :=
 ⟨fa,fd,s_fn F hs hc hB ih,hb,F.kp,m⟩
end
open PySem PySem.Spec PyProof.Rows
noncomputable abbrev CLL:=Str→List D→M D
noncomputable abbrev Tbl:=List (Str × (Nat × Nat × (CLL→CS)))
noncomputable def arT (tbl:Tbl) (x:Str):Option Nat:=(tbl.lookup x).map (·.1)
noncomputable def zAs (tbl:Tbl):Nat→CLL
 | 0,_=>fun _ _=>.bad
 | n+1,x=>match tbl.lookup x with
  | some p=>runF p.1 p.2.1 (p.2.2 (zAs tbl n))
  | none=>fun _ _=>.bad
structure zJT (K:W.Frag) (mg:Str→Option Value) (ar:Str→Option Nat) (x:Str) (p:Nat × Nat × (CLL→CS)):Prop where
 ex:∃ (st:Stmt) (fa:Addr) (fd:FuncData) (N ps:List Str) (fuel:Nat),Fun K x x st fa fd∧mg x=some (.ref fa)∧zHk K fd ps []∧fnOk N ps (zA3 st)=true∧ps.length=p.1∧N.length=p.2.1 ∧
  ∀ cl:CLL,cSts ar cl fuel ⟨N,(zA3 st).names,some x⟩ (zAJ st)=some (p.2.2 cl)
theorem zOD {np nN:Nat}{b:CS}{ds:List D}{S S':zA0}{d:D} (h:runF np nN b ds S=.ok d S'):ds.length=np:=by
 unfold runF at h
 split at h
 ·assumption
 ·cases h
theorem zL7 {α:Type}{tbl:List (Str × α)}{x:Str}{p:α} (h:tbl.lookup x=some p):(x,p)∈tbl:=by
 induction tbl with
 | nil=>cases h
 | cons y r ih =>
  obtain ⟨y1,y2⟩:=y
  rw [qD1] at h
  split at h
  ·rename_i e
   cases h
   have:x=y1:=by simpa using e
   subst this
   simp
  ·exact qC0 _ (ih h)
theorem zPU {P:Program}{w:World}{K:W.Frag}{mg:Str→Option Value}{base:Heap}{tbl:Tbl} (hd:∀ x p,tbl.lookup x=some p→zJT K mg (arT tbl) x p) (hB:MgOk (arT tbl) mg) :
  ∀ (k:Nat) (x:Str) (n:Nat),arT tbl x=some n→(∃ ps,zGy P w K mg base x ps k (spOf K (zAs tbl k x) n))∧∀ ds S d S',zAs tbl k x ds S=.ok d S'→ds.length=n
 | 0,x,n,h=>by
  obtain ⟨p,hp,rfl⟩:=qA4.mp h
  obtain ⟨st,fa,fd,N,ps,fuel,F,m,hb,_⟩:=(hd x p hp).ex
  have no:∀ ds S d S',zAs tbl 0 x ds S=.ok d S'→False:=fun ds S d S' e=>by unfold zAs at e; cases e
  refine ⟨⟨ps,fa,fd,⟨fun vs H Q E h=>?_,fun A outer s H args us vs Q E _ _ _ _ h=>?_⟩,hb,F.kp,m⟩,fun ds S d S' e=>(no _ _ _ _ e).elim⟩
  ·obtain ⟨_,μ,ds,S,d,S',_,_,e,_⟩:=h; exact (no _ _ _ _ e).elim
  ·obtain ⟨_,μ,ds,S,d,S',_,_,e,_⟩:=h; exact (no _ _ _ _ e).elim
 | k+1,x,n,h=>by
  obtain ⟨p,hp,rfl⟩:=qA4.mp h
  obtain ⟨st,fa,fd,N,ps,fuel,F,m,hb,hs,e1,e2,hc⟩:=(hd x p hp).ex
  have ih:=zPU (P:=P) (w:=w) (base:=base) hd hB k
  have q:=zWa (P:=P) (w:=w) (base:=base) (k:=k) F m hb hs (hc (zAs tbl k)) hB ih
  have e3:zAs tbl (k+1) x=runF p.1 p.2.1 (p.2.2 (zAs tbl k)):=by
   show (match tbl.lookup x with | some p=>runF p.1 p.2.1 (p.2.2 (zAs tbl k)) | none=>fun _ _=>.bad)=_
   rw [hp]
  rw [e1,e2] at q
  rw [e3]
  exact ⟨⟨ps,q⟩,fun ds S d S' e=>zOD e⟩
noncomputable def spL (K:W.Frag):Sp:=fun vs H Q _=>∃ (a:Addr) (ns:List Int),vs=[.ref a]∧SqF K H a (ns.map V.int)∧ns.length≤63∧∀ H',Q (.bl true) H'
theorem zSU {K:W.Frag}{H:Hp}{a:Addr}{xs:List V} (o:Only H) (h:SqL K H a xs):SqF K H a xs:=by
 rcases h with (h | ⟨w,h⟩) | h
 ·rcases o a with q | ⟨w,ys,q⟩
  ·rw [h] at q; cases q
  ·rw [h] at q; cases q
 ·exact .inl ⟨w,h⟩
 ·exact .inr h
theorem zUi {P:Program}{w:World}{K:W.Frag}{mg:Str→Option Value}{base:Heap}{tbl:Tbl}{fa:Addr}{fd:FuncData}{st:Stmt}{L nN fuel:Nat}{N:List Str}{b:CLL→CS} (hd:∀ x p,tbl.lookup x=some p→zJT K mg (arT tbl) x p) (hB:MgOk (arT tbl) mg)
  (hl:tbl.lookup ("law":Str)=some (1,nN,b)) (F:Fun K "law" "law" st fa fd) (hs:fnOk N ["_law_script"] (zA3 st)=true) (hN:N.length=nN) (hc:∀ cl:CLL,cSts (arT tbl) cl fuel ⟨N,(zA3 st).names,some "law"⟩ (zAJ st)=some (b cl))
  (hlaw:∀ ns:List Int,ns.length≤63→∃ S',zAs tbl (L+1) "law" [.rol (ns.map D.int)] []=.ok (.bl true) S') :
  FnOk P w K mg base CX0 (L+1) fa fd ["_law_script"] (spL K):=by
 have q:=s_fn (P:=P) (w:=w) (base:=base) (k:=L) F hs (hc (zAs tbl L)) hB (zPU (P:=P) (w:=w) (base:=base) hd hB L)
 refine q.imp fun vs H Q E h=>?_
 obtain ⟨a,ns,rfl,hS,hn,hQ⟩:=h
 obtain ⟨S',e⟩:=hlaw ns hn
 have e3:zAs tbl (L+1) "law"=runF 1 nN (b (zAs tbl L)):=by
  show (match tbl.lookup ("law":Str) with | some p=>runF p.1 p.2.1 (p.2.2 (zAs tbl L)) | none=>fun _ _=>.bad)=_
  rw [hl]
 rw [e3] at e
 refine ⟨rfl,[],[.rol (ns.map D.int)],[],.bl true,S',⟨rfl,qN1,fun n a o h=>by simp at h⟩,.cons (by unfold RV; exact ⟨a,_,rfl,hS,RVs.ints⟩) .nil,by rw [hN]; exact e,fun v H' μ' _ _ r=>?_⟩
 unfold RV at r
 subst r
 exact hQ H'
theorem walk_ev {l:W.OpenLaw}{q:Program}{loose:List Str}{XP:(Str→Option Value)→Heap→Prop}{YP:World→Heap→Prop}{d:DefRec}{K:Params→W.Frag}{L:Nat} (hn:l.most=some 63) (hdf:d.params.defaults=[]) (hr:Room L callerA)
  (hY:∀ (w:World) (h:Heap),YP w h→(K w.params).In h)
  (F:∀ (w:World) (mg:Str→Option Value) (fa:Addr) (h:Heap),(K w.params).In h→h.Ns mainGlobals mg→mg d.name=some (.ref fa) →
   ∃ fd:FuncData,(∀ (s:Shared) (u:Value),BindsTo s fd ⟨[u],[]⟩ [("_law_script",u)])∧∀ base:Heap,(K w.params).In base→base.Ns mainGlobals mg→FnOk l.prog w (K w.params) mg base CX0 L fa fd ["_law_script"] (spL (K w.params))) :
  W.WalkO q loose XP YP l.row.toRowW d [] (fun f vs=>PySem.call f vs) :=
 L2.walk_of (n:=63) (k:=L) (x := "_law_script") (CX:=fun _=>CX0) (sp:=fun w=>spL (K w.params)) hn (by decide) hdf hr hY F (fun _ _ a ns hl o hS=>⟨a,ns,rfl,zSU o hS,hl,fun _=>rfl⟩) fun _ _ _ _ _ z=>z
open PySem
noncomputable def zLR (K:W.Frag) (mg:Str→Option Value) (ar:Str→Option Nat):Tbl→Prop
 | []=>True
 | e::r=>zJT K mg ar e.1 e.2∧zLR K mg ar r
theorem zLR.mem {K:W.Frag}{mg:Str→Option Value}{ar:Str→Option Nat}:∀ {t:Tbl},zLR K mg ar t→∀ x p,(x,p)∈t→zJT K mg ar x p
 | [],_,x,p,h=>by cases h
 | e::r,⟨a,b⟩,x,p,h=>by
  rcases qB9.mp h with q | q
  ·subst q; exact a
  ·exact b.mem x p q
theorem zLR.look {K:W.Frag}{mg:Str→Option Value}{ar:Str→Option Nat}{t:Tbl} (h:zLR K mg ar t) (x:Str) (p:Nat × Nat × (CLL→CS)) (e:t.lookup x=some p):zJT K mg ar x p:=h.mem x p (zL7 e)
theorem zUP {K:W.Frag}{mg:Str→Option Value}{ar:Str→Option Nat}{x:Str}{st:Stmt}{fa:Addr}{fd:FuncData}{N ps:List Str}{fuel np nN:Nat}{b:CLL→CS} (F:Fun K x x st fa fd) (m:mg x=some (.ref fa)) (hb:zHk K fd ps []) (hs:fnOk N ps (zA3 st)=true)
  (hc:(fun cl:CLL=>cSts ar cl fuel ⟨N,(zA3 st).names,some x⟩ (zAJ st))=fun cl=>some (b cl)) (h1:ps.length=np:=by rfl) (h2:N.length=nN:=by rfl):zJT K mg ar x (np,nN,b) :=
 ⟨st,fa,fd,N,ps,fuel,F,m,hb,hs,h1,h2,fun cl=>congrFun hc cl⟩
noncomputable def zHl (mg:Str→Option Value):List Str→Prop
 | []=>True
 | x::r=>mg x=none∧zHl mg r
theorem zHl.mem {mg:Str→Option Value}:∀ {l:List Str},zHl mg l→∀ x∈l,mg x=none
 | [],_,x,h=>by cases h
 | e::r,⟨a,b⟩,x,h=>by
  rcases qB9.mp h with q | q
  ·subst q; exact a
  ·exact b.mem x q
open PySem
inductive Tg {γ:Type} (f:γ):Type where
 | mk
noncomputable def rbnd {α β:Type} (r:R α) (f:α→zA0→R β) (_:Tg f):R β:=match r with
 | .bad=>.bad
 | .er c S=>.er c S
 | .ok a S=>f a S
@[simp] theorem zAx {α β:Type} (a:α) (S:zA0) (f:α→zA0→R β):rbnd (.ok a S) f .mk=f a S:=rfl
@[simp] theorem zVn {α β:Type} (f:α→zA0→R β):rbnd .bad f .mk=.bad:=rfl
@[simp] theorem zCl {α β:Type} (m:M α) (f:α→M β) (S:zA0):bnd m f S=rbnd (m S) f .mk:=rfl
@[simp] theorem zXA {α:Type} (a:α) (S:zA0):ret a S=.ok a S:=rfl
@[simp] theorem zXH {α:Type} (S:zA0):(bad:M α) S=.bad:=rfl
noncomputable def rs {α:Type} (r:R α) (f:α→zA0→RS) (_:Tg f):RS:=match r with
 | .bad=>.bad
 | .er _ _=>.bad
 | .ok a S=>f a S
@[simp] theorem zTg {α:Type} (a:α) (S:zA0) (f:α→zA0→RS):rs (.ok a S) f .mk=f a S:=rfl
@[simp] theorem zXz {α:Type} (f:α→zA0→RS):rs .bad f .mk=.bad:=rfl
noncomputable def sb (r:RS) (f:CS) (_:Tg f):RS:=match r with
 | .nx ρ S=>f ρ S
 | r=>r
@[simp] theorem zT9 (ρ:Env1) (S:zA0) (f:CS):sb (.nx ρ S) f .mk=f ρ S:=rfl
@[simp] theorem zXI (d:D) (S:zA0) (f:CS):sb (.rt d S) f .mk=.rt d S:=rfl
@[simp] theorem zXK (ρ:Env1) (S:zA0) (f:CS):sb (.bk ρ S) f .mk=.bk ρ S:=rfl
@[simp] theorem zXJ (ρ:Env1) (S:zA0) (f:CS):sb (.ct ρ S) f .mk=.ct ρ S:=rfl
@[simp] theorem zGH (a b:CS) (ρ:Env1) (S:zA0):sSeq a b ρ S=sb (a ρ S) b .mk:=by
 unfold sSeq sb; cases a ρ S <;> rfl
@[simp] theorem zVl (ρ:Env1) (S:zA0):zA5 ρ S=.nx ρ S:=rfl
@[simp] theorem zWc (ρ:Env1) (S:zA0):sBrk ρ S=.bk ρ S:=rfl
@[simp] theorem zWb (ρ:Env1) (S:zA0):sCnt ρ S=.ct ρ S:=rfl
@[simp] theorem zVk (ρ:Env1) (S:zA0):zQY ρ S=.rt .non S:=rfl
@[simp] theorem zQX (c:C) (ρ:Env1) (S:zA0):sRet c ρ S=rs (c ρ S) (fun d S'=>.rt d S') .mk:=by
 unfold sRet rs; cases c ρ S <;> rfl
@[simp] theorem zVm (c:C) (ρ:Env1) (S:zA0):zDv c ρ S=rs (c ρ S) (fun _ S'=>.nx ρ S') .mk:=by
 unfold zDv rs; cases c ρ S <;> rfl
@[simp] theorem zQZ (c:C) (g:G) (ρ:Env1) (S:zA0):sAsg c g ρ S=rs (c ρ S) (fun d S1=>rs (g d ρ S1) (fun ρ' S2=>.nx ρ' S2) .mk) .mk:=by
 unfold sAsg rs
 cases c ρ S with
 | ok d S1=>dsimp only; cases g d ρ S1 <;> rfl
 | _=>rfl
@[simp] theorem zXy (t:CT) (a b:CS) (ρ:Env1) (S:zA0):sIf t a b ρ S=rs (t ρ S) (fun k S'=>if k then a ρ S' else b ρ S') .mk:=by
 unfold sIf rs; cases t ρ S <;> rfl
@[simp] theorem zMr (it:CI) (g:G) (b:CS) (ρ:Env1) (S:zA0):sFor it g b ρ S=rs (it ρ S) (fun p S1=>zAG p.2 g b p.1 ρ S1) .mk:=by
 unfold sFor rs
 cases it ρ S with
 | ok p S1=>obtain ⟨a,b⟩:=p; rfl
 | _=>rfl
@[simp] theorem zX8 (i:Nat) (d:D) (ρ:Env1) (S:zA0):gN i d ρ S=.ok (ρ.set i (some d)) S:=rfl
noncomputable def mo {α:Type} (o:Option α) (S':α→zA0) (ρ:Env1):R Env1:=match o with
 | some x=>.ok ρ (S' x)
 | none=>.bad
@[simp] theorem zXM (co ci:C) (d:D) (ρ:Env1) (S:zA0):gS co ci d ρ S=rbnd (co ρ S) (fun o S1=>rbnd (ci ρ S1) (fun i S2=>mo (oSet o i d S2) (fun x=>x) ρ) .mk) .mk:=by
 unfold gS
 rw [zCl]
 cases co ρ S with
 | bad=>rfl
 | er _ _=>rfl
 | ok o S1 =>
  rw [zAx,zAx,zCl]
  cases ci ρ S1 with
  | bad=>rfl
  | er _ _=>rfl
  | ok i S2 =>
   rw [zAx,zAx]
   cases h:oSet o i d S2 <;> rfl
@[simp] theorem zWQ {α:Type} (x:α) (f:α→zA0) (ρ:Env1):mo (some x) f ρ=.ok ρ (f x):=rfl
@[simp] theorem zXL (gs:List G) (xs:List D) (ρ:Env1) (S:zA0):gT gs (.tup xs) ρ S=gTs gs xs ρ S:=rfl
@[simp] theorem zX7 (ρ:Env1) (S:zA0):gTs [] [] ρ S=.ok ρ S:=rfl
@[simp] theorem zVz (g:G) (gs:List G) (x:D) (xs:List D) (ρ:Env1) (S:zA0):gTs (g::gs) (x::xs) ρ S=rbnd (g x ρ S) (fun ρ1 S1=>gTs gs xs ρ1 S1) .mk:=rfl
@[simp] theorem zJH (i:Nat) (ρ:Env1) (S:zA0):cVar i ρ S=match ρ[i]? with | some (some d)=>.ok d S | _=>.bad:=rfl
@[simp] theorem zO4 (d:D) (ρ:Env1) (S:zA0):cCon d ρ S=.ok d S:=rfl
@[simp] theorem zO6 (o:D→D→M D) (a b:C) (ρ:Env1) (S:zA0):cBin o a b ρ S=rbnd (a ρ S) (fun x S1=>rbnd (b ρ S1) (fun y S2=>o x y S2) .mk) .mk:=rfl
@[simp] theorem zXE (o:D→M D) (a:C) (ρ:Env1) (S:zA0):cUn o a ρ S=rbnd (a ρ S) o .mk:=rfl
@[simp] theorem zFx (ρ:Env1) (S:zA0):zA1 [] ρ S=.ok [] S:=rfl
@[simp] theorem zGv (c:C) (cs:List C) (ρ:Env1) (S:zA0):zA1 (c::cs) ρ S=rbnd (c ρ S) (fun x S1=>rbnd (zA1 cs ρ S1) (fun xs S2=>.ok (x::xs) S2) .mk) .mk:=rfl
@[simp] theorem zSh (o:List D→M D) (a:CA) (ρ:Env1) (S:zA0):cApp o a ρ S=rbnd (a ρ S) o .mk:=rfl
@[simp] theorem zXh (a:CA) (ρ:Env1) (S:zA0):cTup a ρ S=rbnd (a ρ S) (fun xs S1=>.ok (.tup xs) S1) .mk:=rfl
@[simp] theorem zO2 (a:CA) (ρ:Env1) (S:zA0):cLst a ρ S=rbnd (a ρ S) (fun xs S1=>.ok (.lst S1.length) (S1++[.lst xs])) .mk:=rfl
@[simp] theorem zXG (t:CT) (a b:C) (ρ:Env1) (S:zA0):cIf t a b ρ S=rbnd (t ρ S) (fun k S1=>if k then a ρ S1 else b ρ S1) .mk:=by
 unfold cIf; rw [zCl]
 cases t ρ S with
 | ok k S1=>cases k <;> rfl
 | bad=>rfl
 | er _ _=>rfl
@[simp] theorem zVO (a:C) (ρ:Env1) (S:zA0):zAk a ρ S=rbnd (a ρ S) (fun x S1=>dB x S1) .mk:=rfl
@[simp] theorem zXN (b:Bool) (S:zA0):dB (.bl b) S=.ok b S:=rfl
@[simp] theorem zVP (a b:C) (ρ:Env1) (S:zA0):zO7 a b ρ S=rbnd (zAk a ρ S) (fun k S1=>if k then b ρ S1 else .ok (.bl false) S1) .mk:=by
 unfold zO7; rw [zCl]
 cases zAk a ρ S with
 | ok k S1=>cases k <;> rfl
 | bad=>rfl
 | er _ _=>rfl
@[simp] theorem zXj (a b:C) (ρ:Env1) (S:zA0):cOrV a b ρ S=rbnd (zAk a ρ S) (fun k S1=>if k then .ok (.bl true) S1 else b ρ S1) .mk:=by
 unfold cOrV; rw [zCl]
 cases zAk a ρ S with
 | ok k S1=>cases k <;> rfl
 | bad=>rfl
 | er _ _=>rfl
@[simp] theorem zVI (a:C) (ρ:Env1) (S:zA0):zPH a ρ S=rbnd (zAk a ρ S) (fun k S1=>.ok (.bl (!k)) S1) .mk:=rfl
@[simp] theorem zVQ (a b:CT) (ρ:Env1) (S:zA0):zIu a b ρ S=rbnd (a ρ S) (fun k S1=>if k then b ρ S1 else .ok false S1) .mk:=by
 unfold zIu; rw [zCl]
 cases a ρ S with
 | ok k S1=>cases k <;> rfl
 | bad=>rfl
 | er _ _=>rfl
@[simp] theorem zXk (a b:CT) (ρ:Env1) (S:zA0):cOrT a b ρ S=rbnd (a ρ S) (fun k S1=>if k then .ok true S1 else b ρ S1) .mk:=by
 unfold cOrT; rw [zCl]
 cases a ρ S with
 | ok k S1=>cases k <;> rfl
 | bad=>rfl
 | er _ _=>rfl
@[simp] theorem zVJ (a:CT) (ρ:Env1) (S:zA0):zIt a ρ S=rbnd (a ρ S) (fun k S1=>.ok (!k) S1) .mk:=rfl
@[simp] theorem zUX (o o':D→D→M D) (a b c:C) (ρ:Env1) (S:zA0):zGu o o' a b c ρ S=rbnd (a ρ S) (fun x S1=>rbnd (b ρ S1) (fun y S2=>rbnd (o x y S2) (fun z S3=>rbnd (dB z S3) (fun k S4=>if k then rbnd (c ρ S4) (fun w S5=>o' y w S5) .mk else .ok (.bl false) S4) .mk) .mk) .mk) .mk:=by
 unfold zGu
 rw [zCl]
 cases a ρ S with
 | bad=>rfl
 | er _ _=>rfl
 | ok x S1 =>
  rw [zAx,zAx,zCl]
  cases b ρ S1 with
  | bad=>rfl
  | er _ _=>rfl
  | ok y S2 =>
   rw [zAx,zAx,zCl]
   cases o x y S2 with
   | bad=>rfl
   | er _ _=>rfl
   | ok z S3 =>
    rw [zAx,zAx,zCl]
    cases dB z S3 with
    | bad=>rfl
    | er _ _=>rfl
    | ok k S4=>cases k <;> rfl
@[simp] theorem zXi (a:C) (ρ:Env1) (S:zA0):cTru a ρ S=rbnd (a ρ S) (fun x S1=>dTru x S1) .mk:=rfl
@[simp] theorem zXf (b:Bool) (S:zA0):dTru (.bl b) S=.ok b S:=rfl
@[simp] theorem zVF (i:Int) (S:zA0):dTru (.int i) S=.ok (i != 0) S:=rfl
@[simp] theorem zVE (xs:List D) (S:zA0):dTru (.tup xs) S=.ok (!xs.isEmpty) S:=rfl
@[simp] theorem zSu (ρ:Env1) (S:zA0):zFv ρ S=.ok none S:=rfl
@[simp] theorem zVH (a:C) (ρ:Env1) (S:zA0):zH7 a ρ S=rbnd (a ρ S) (fun x S1=>rbnd (dInt x S1) (fun i S2=>.ok (some i) S2) .mk) .mk:=rfl
@[simp] theorem zXg (i:Int) (S:zA0):dInt (.int i) S=.ok i S:=rfl
@[simp] theorem zXF (o:D→Option Int→Option Int→M D) (a:C) (lo hi:CO) (ρ:Env1) (S:zA0):cSl o a lo hi ρ S=rbnd (a ρ S) (fun x S1=>rbnd (lo ρ S1) (fun l S2=>rbnd (hi ρ S2) (fun h S3=>o x l h S3) .mk) .mk) .mk:=rfl
@[simp] theorem zVK (T:String) (o:D→List D→M D) (a:C) (as:CA) (ρ:Env1) (S:zA0):zDo T o a as ρ S=rbnd (a ρ S) (fun x S1=>if tyOk T x S1 then rbnd (as ρ S1) (fun xs S2=>o x xs S2) .mk else .bad) .mk:=rfl
@[simp] theorem zUW (T:String) (o:D→List D→M D) (a:C) (ρ:Env1) (S:zA0):zKF T o a ρ S=rbnd (a ρ S) (fun x S1=>if tyOk T x S1 then o x [] S1 else .bad) .mk:=rfl
@[simp] theorem zX5 (c:C) (ρ:Env1) (S:zA0):iSeq c ρ S=rbnd (c ρ S) (fun x S1=>match x with
 | .tup xs=>.ok (xs,[]) S1
 | .lst n=>match zA4 S1 n with
  | some xs=>.ok (xs,[(n,xs)]) S1
  | none=>.bad
 | _=>.bad) .mk:=rfl
@[simp] theorem zLe (a:CA) (ρ:Env1) (S:zA0):zBE a ρ S=rbnd (a ρ S) (fun xs S1=>match xs with
 | [.int j]=>if -4611686018427387904≤j∧j<4611686018427387904 then .ok (upD 0 j.toNat,[]) S1 else .bad
 | _=>.bad) .mk:=rfl
@[simp] theorem zSq (a:CA) (ρ:Env1) (S:zA0):zFi a ρ S=rbnd (a ρ S) (fun xs S1=>match xs with
 | [.int i,.int j]=>if -4611686018427387904≤i∧i<4611686018427387904∧-4611686018427387904≤j∧j<4611686018427387904 then .ok (upD i (j - i).toNat,[]) S1 else .bad
 | _=>.bad) .mk:=rfl
@[simp] theorem zVy (a:CA) (ρ:Env1) (S:zA0):zPt a ρ S=rbnd (a ρ S) (fun xs S1=>match xs with
 | [x,y]=>match zsAt S1 x,zsAt S1 y with
  | some ys,some zs=>.ok (zipD ys zs,zCO x ys++zCO y zs) S1
  | _,_=>.bad
 | _=>.bad) .mk:=rfl
@[simp] theorem zQs (n:Nat) (xs:List D):zCO (.lst n) xs=[(n,xs)]:=rfl
@[simp] theorem zQr (ys:List D) (xs:List D):zCO (.tup ys) xs=[]:=rfl
@[simp] theorem zVj (S:zA0) (n:Nat):zsAt S (.lst n)=zA4 S n:=rfl
@[simp] theorem zVi (S:zA0) (xs:List D):zsAt S (.tup xs)=some xs:=rfl
@[simp] theorem zUz (a:CA) (ρ:Env1) (S:zA0):zEz a ρ S=rbnd (a ρ S) (fun xs S1=>match xs with
 | [.tup ys]=>.ok (zBI ys,[]) S1
 | [.lst n]=>match zA4 S1 n with
  | some ys=>.ok (zBI ys,[(n,ys)]) S1
  | none=>.bad
 | _=>.bad) .mk:=rfl
@[simp] theorem zVN (it:CI) (k:Nat) (js:List Nat) (t:Tgt) (tc:CT) (c:C) (ρ:Env1) (S:zA0):zBJ it k js t tc c ρ S=rbnd (it ρ S) (fun p S1=>if p.1.length<lim then rbnd (zAo p.2 t tc c (stE k js ρ) p.1 S1) (fun ys S'=>.ok (.lst S'.length) (S'++[.lst ys])) .mk else .bad) .mk:=rfl
@[simp] theorem zVM (ρ:Env1) (S:zA0):zJJ ρ S=.ok (.dct S.length) (S++[.dk []]):=rfl
@[simp] theorem zVL (a b:C) (ρ:Env1) (S:zA0):zPI a b ρ S=rbnd (a ρ S) (fun x S1=>rbnd (b ρ S1) (fun y S2=>match zCN x with
 | some k=>.ok (.dct S2.length) (S2++[.dk [(k,y)]])
 | none=>.bad) .mk) .mk:=rfl
@[simp] theorem zVw (i j:Int) (S:zA0):oAdd (.int i) (.int j) S=.ok (.int (i+j)) S:=rfl
@[simp] theorem zVv (xs ys:List D) (S:zA0):oAdd (.tup xs) (.tup ys) S=if xs.length+ys.length≤lim then .ok (.tup (xs++ys)) S else .bad:=rfl
@[simp] theorem zWO (g:Int→Int→Int) (i j:Int) (S:zA0):oInt g (.int i) (.int j) S=.ok (.int (g i j)) S:=rfl
@[simp] theorem zVr (i j:Int) (S:zA0):oMul (.int i) (.int j) S=if zF1 i j then .ok (.int (i*j)) S else .bad:=rfl
@[simp] theorem zVs (i j:Int) (S:zA0):oMod (.int i) (.int j) S=if 0<j then .ok (.int (i % j)) S else .bad:=rfl
@[simp] theorem zVt (i j:Int) (S:zA0):oDiv (.int i) (.int j) S=if 0<j∧j<1073741824 then .ok (.int (i / j)) S else .bad:=rfl
@[simp] theorem zVp (i j:Int) (S:zA0):oPow (.int i) (.int j) S=if 0≤j∧j≤1000000∧i.natAbs<18446744073709551616 then .ok (.int (i ^ j.toNat)) S else .bad:=rfl
@[simp] theorem zP5 (i j:Int) (S:zA0):oShl (.int i) (.int j) S=if 0≤j∧j≤1000000∧i.natAbs<18446744073709551616 then .ok (.int (i*2 ^ j.toNat)) S else .bad:=rfl
@[simp] theorem zVo (i j:Int) (S:zA0):oShr (.int i) (.int j) S=if 0≤j then .ok (.int (i / 2 ^ j.toNat)) S else .bad:=rfl
@[simp] theorem zVq (i:Int) (S:zA0):oNeg (.int i) S=.ok (.int (-i)) S:=rfl
@[simp] theorem zVu (g:Int→Int→Bool) (i j:Int) (S:zA0):oCmp g (.int i) (.int j) S=.ok (.bl (g i j)) S:=rfl
@[simp] theorem zWL (i j:Int) (S:zA0):oLt (.int i) (.int j) S=.ok (.bl (decide (i<j))) S:=rfl
theorem zNu (i j:Int):PyData.eqv (.int i) (.int j)=decide (i=j):=by
 show (i == j)=decide (i=j)
 rfl
@[simp] theorem zWP (i j:Int) (S:zA0):oEq (.int i) (.int j) S=.ok (.bl (decide (i=j))) S:=by
 show R.ok (D.bl (PyData.eqv (.int i) (.int j))) S=_
 rw [zNu]
@[simp] theorem zWK (i j:Int) (S:zA0):oNe (.int i) (.int j) S=.ok (.bl (!decide (i=j))) S:=by
 show R.ok (D.bl (!PyData.eqv (.int i) (.int j))) S=_
 rw [zNu]
@[simp] theorem zXD (i j:Bool) (S:zA0):oEq (.bl i) (.bl j) S=.ok (.bl (i == j)) S:=by
 show R.ok (D.bl (PyData.eqv (.bool i) (.bool j))) S=_
 cases i <;> cases j <;> rfl
@[simp] theorem zXB (i j:Bool) (S:zA0):oNe (.bl i) (.bl j) S=.ok (.bl (i != j)) S:=by
 show R.ok (D.bl (!PyData.eqv (.bool i) (.bool j))) S=_
 cases i <;> cases j <;> rfl
@[simp] theorem zWN (x:D) (S:zA0):oIs x .non S=.ok (.bl x.isNon) S:=by cases x <;> rfl
@[simp] theorem zSp (x:D) (S:zA0):zGb x .non S=.ok (.bl (!x.isNon)) S:=by cases x <;> rfl
@[simp] theorem zXC (a b:Bool) (S:zA0):oIs (.bl a) (.bl b) S=.ok (.bl (a == b)) S:=rfl
@[simp] theorem zU2 (a b:Bool) (S:zA0):zGb (.bl a) (.bl b) S=.ok (.bl (a != b)) S:=rfl
@[simp] theorem zXc (i j:Int) (S:zA0):fMin [.int i,.int j] S=.ok (.int (if j<i then j else i)) S:=rfl
@[simp] theorem zXd (i j:Int) (S:zA0):fMax [.int i,.int j] S=.ok (.int (if j>i then j else i)) S:=rfl
@[simp] theorem zVC (i:Int) (S:zA0):fInt [.int i] S=.ok (.int i) S:=rfl
@[simp] theorem zXe (b:Bool) (S:zA0):fInt [.bl b] S=.ok (.int (if b then 1 else 0)) S:=rfl
@[simp] theorem zSs (xs:List D) (S:zA0):zBa [.tup xs] S=.ok (.tup xs) S:=rfl
theorem zBM {n:Nat}{xs:List D}{S:zA0} (h:zA4 S n=some xs):zBa [.lst n] S=.ok (.tup xs) S:=by
 show (match zA4 S n with | some ys=>R.ok (D.tup ys) S | none=>.bad)=_
 rw [h]
@[simp] theorem zVA (xs:List D) (S:zA0):fLen [.tup xs] S=.ok (.int xs.length) S:=rfl
@[simp] theorem zVB (xs:List D) (S:zA0):fLen [.rol xs] S=.ok (.int xs.length) S:=rfl
theorem zKt {n:Nat}{xs:List D}{S:zA0} (h:zA4 S n=some xs):fLen [.lst n] S=.ok (.int xs.length) S:=by
 show (match zHC S (.lst n) with | some ys=>R.ok (D.int ys.length) S | none=>.bad)=_
 show (match zA4 S n with | some ys=>R.ok (D.int ys.length) S | none=>.bad)=_
 rw [h]
@[simp] theorem zUG (xs:List D) (S:zA0):zNt [.tup xs] S=.ok (.lst S.length) (S++[.lst xs]):=rfl
@[simp] theorem zGM (xs:List D) (j:Int) (S:zA0):oIx (.tup xs) (.int j) S=match atI xs j with | some d=>.ok d S | none=>.bad:=rfl
@[simp] theorem zWM (xs:List D) (j:Int) (S:zA0):oIx (.rol xs) (.int j) S=match atI xs j with | some d=>.ok d S | none=>.bad:=rfl
theorem zEX {n:Nat}{xs:List D}{S:zA0} (h:zA4 S n=some xs) (j:Int):oIx (.lst n) (.int j) S=match atI xs j with | some d=>.ok d S | none=>.bad:=by
 show (match zA4 S n,D.int j with | some xs,.int j=>(match atI xs j with | some d=>R.ok d S | none=>.bad) | _,_=>.bad)=_
 rw [h]
@[simp] theorem zWJ (xs:List D) (lo hi:Option Int) (S:zA0):oSl (.tup xs) lo hi S=.ok (.tup (cutD xs lo hi)) S:=rfl
theorem zRu {n:Nat}{xs:List D}{S:zA0} (h:zA4 S n=some xs) (lo hi:Option Int):oSl (.lst n) lo hi S=.ok (.lst S.length) (S++[.lst (cutD xs lo hi)]):=by
 show (match zA4 S n with | some xs=>R.ok (D.lst S.length) (S++[O.lst (cutD xs lo hi)]) | none=>.bad)=_
 rw [h]
@[simp] theorem zXR {α:Type} (x:α) (xs:List α):atI (x::xs) 0=some x:=zCH (j:=0) rfl
@[simp] theorem zXQ {α:Type} (x y:α) (xs:List α):atI (x::y::xs) 1=some y:=zCH (j:=1) rfl
@[simp] theorem zXP {α:Type} (x y z:α) (xs:List α):atI (x::y::z::xs) 2=some z:=zCH (j:=2) rfl
@[simp] theorem zXO {α:Type} (x y z w:α) (xs:List α):atI (x::y::z::w::xs) 3=some w:=zCH (j:=3) rfl
structure Kp (P:Nat→Prop) (S S':zA0):Prop where
 le:S.length≤S'.length
 eq:∀ j,j<S.length→¬ P j→S'[j]?=S[j]?
noncomputable abbrev Ex:zA0→zA0→Prop:=Kp fun _=>False
inductive Spc {α:Type} (m:R α) (r:α) (S:zA0):Prop
 | mk (S1:zA0) (e:m=.ok r S1) (x:Ex S S1)
theorem Kp.refl (P:Nat→Prop) (S:zA0):Kp P S S:=⟨qB0 _,fun _ _ _=>rfl⟩
theorem Kp.trans {P:Nat→Prop}{S S1 S2:zA0} (a:Kp P S S1) (b:Kp P S1 S2):Kp P S S2:=⟨qC5 a.le b.le,fun j h n=>(b.eq j (qC3 h a.le) n).trans (a.eq j h n)⟩
theorem Ex.kp {P:Nat→Prop}{S S':zA0} (h:Ex S S'):Kp P S S':=⟨h.le,fun j hj _=>h.eq j hj (fun z=>z)⟩
theorem Kp.kp {P:Nat→Prop}{S S':zA0} (h:Kp (fun _=>False) S S'):Kp P S S':=⟨h.le,fun j hj _=>h.eq j hj (fun z=>z)⟩
theorem Kp.mono {P Q:Nat→Prop}{S S':zA0} (h:Kp P S S') (m:∀ j,j<S.length→P j→Q j):Kp Q S S':=⟨h.le,fun j hj n=>h.eq j hj fun z=>n (m j hj z)⟩
theorem zA8 (S T:zA0):Ex S (S++T):=⟨by simp,fun j h _=>qA7 h⟩
theorem zBx {i:Nat} (S:zA0) (o:O):Kp (·=i) S (S.set i o):=⟨by simp,fun j h n=>qE8 fun z=>n z.symm⟩
theorem Kp.at {P:Nat→Prop}{S S':zA0} (h:Kp P S S') {j:Nat}{o:O} (e:S[j]?=some o) (n:¬ P j):S'[j]?=some o:=by
 rw [h.eq j (qA1.mp e).1 n]; exact e
theorem zAE {S:zA0}{n:Nat}{xs:List D} (h:zA4 S n=some xs):S[n]?=some (.lst xs):=by
 unfold zA4 at h
 split at h
 ·rename_i ys e; cases h; exact e
 ·cases h
theorem zDR {S:zA0}{n:Nat}{xs:List D} (h:S[n]?=some (.lst xs)):zA4 S n=some xs:=by unfold zA4; rw [h]
theorem Kp.lst {P:Nat→Prop}{S S':zA0} (h:Kp P S S') {j:Nat}{xs:List D} (e:zA4 S j=some xs) (n:¬ P j):zA4 S' j=some xs:=zDR (h.at (zAE e) n)
theorem zC9 {S:zA0}{n:Nat}{xs:List D} (h:zA4 S n=some xs):n<S.length:=(qA1.mp (zAE h)).1
@[simp] theorem zA2 (S:zA0) (xs:List D):zA4 (S++[.lst xs]) S.length=some xs:=zDR (by rw [qA0 (qB0 _),qK1]; rfl)
theorem zAd {S T:zA0}{n:Nat}{xs:List D} (h:zA4 S n=some xs):zA4 (S++T) n=some xs:=(zA8 S T).lst h fun z=>z
theorem zAS {S:zA0}{n:Nat}{xs ys:List D} (h:zA4 S n=some xs):zA4 (S.set n (.lst ys)) n=some ys:=zDR (qD7 (zC9 h))
theorem zB5 {S:zA0}{n:Nat}{xs:List D} (h:zA4 S n=some xs):tyOk "list" (.lst n) S=true:=by
 show (decide ("list" = "list")&&(zA4 S n).isSome)=true
 rw [h]; rfl
theorem zDd {S:zA0}{n:Nat}{ys:List D} (h:zA4 S n=some ys) (g:List D→List D→Option (List D × D)) (xs:List D):zBg g (.lst n) xs S=match g ys xs with | some p=>.ok p.2 (S.set n (.lst p.1)) | none=>.bad:=by
 unfold zBg
 dsimp only
 rw [zAE h]
 dsimp only
 cases g ys xs with
 | none=>rfl
 | some p=>rfl
@[simp] theorem zLk (ys:List D) (x:D):zAy ys [x]=if ys.length<lim then some (ys++[x],.non) else none:=rfl
@[simp] theorem zSr (ys:List D) (i:Int) (x:D):zEn ys [.int i,x]=if ys.length<1000∧0≤i∧i.toNat≤ys.length then some (ys.take i.toNat++x::ys.drop i.toNat,.non) else none:=rfl
theorem zKf {S:zA0}{n:Nat}{ys:List D} (h:zA4 S n=some ys) (k:Int) (v:D):oSet (.lst n) (.int k) v S=match ixN ys.length k with | some j=>some (S.set n (.lst (ys.set j v))) | none=>none:=by
 unfold oSet
 dsimp only
 rw [zAE h]
 all_goals (dsimp only; cases ixN ys.length k <;> rfl)
theorem zAm (S:zA0):okW [] S:=fun p h=>by cases h
theorem zBD {S:zA0}{n:Nat}{xs:List D} (h:zA4 S n=some xs):okW [(n,xs)] S:=fun p hp=>by
 simp at hp; subst hp; exact h
theorem zRr {S:zA0}{n m:Nat}{xs ys:List D} (h:zA4 S n=some xs) (h2:zA4 S m=some ys):okW [(n,xs),(m,ys)] S:=fun p hp=>by
 simp at hp
 rcases hp with rfl | rfl
 ·exact h
 ·exact h2
theorem zMU {w:zD5}{g:G}{b:CS}:∀ (items:List D) (P:Nat→Env1→zA0→Prop) {ρ:Env1}{S:zA0} (k:Nat),(∀ i ρ S,P i ρ S→okW w S)→P k ρ S →
  (∀ i d ρ S,items[i]?=some d→P (k+i) ρ S→∃ ρ1 S1,g d ρ S=.ok ρ1 S1∧∃ ρ2 S2,(b ρ1 S1=.nx ρ2 S2∨b ρ1 S1=.ct ρ2 S2)∧P (k+i+1) ρ2 S2)→∃ ρ' S',zAG w g b items ρ S=.nx ρ' S'∧P (k+items.length) ρ' S'
 | [],P,ρ,S,k,hw,h0,hs=>⟨ρ,S,by unfold zAG; rw [if_pos (hw k ρ S h0)],by simpa using h0⟩
 | d::ds,P,ρ,S,k,hw,h0,hs=>by
  obtain ⟨ρ1,S1,e1,ρ2,S2,e2,p2⟩:=hs 0 d ρ S rfl (by simpa using h0)
  obtain ⟨ρ',S',e3,p3⟩:=zMU ds P (k+1) hw (by simpa using p2) (fun i d' ρ S hi hp=>by
   obtain ⟨ρ1,S1,q1,ρ2,S2,q2,q3⟩:=hs (i+1) d' ρ S (by rw [qD6]; exact hi) (by rw [show k+(i+1)=k+1+i by omega]; exact hp)
   exact ⟨ρ1,S1,q1,ρ2,S2,q2,by rw [show k+1+i+1=k+(i+1)+1 by omega]; exact q3⟩)
  refine ⟨ρ',S',?_,by rw [qD0,show k+(ds.length+1)=k+1+ds.length by omega]; exact p3⟩
  unfold zAG
  rw [if_pos (hw k ρ S h0),e1]
  dsimp only
  rcases e2 with e2 | e2
  ·rw [e2]; exact e3
  ·rw [e2]; exact e3
inductive zXn (r:RS) (P:Env1→zA0→Prop):Prop
 | mk (ρ2:Env1) (S2:zA0) (h:r=.nx ρ2 S2∨r=.ct ρ2 S2) (p:P ρ2 S2)
inductive zXm (g:G) (b:CS) (d:D) (ρ:Env1) (S:zA0) (P:Env1→zA0→Prop):Prop
 | mk (ρ1:Env1) (S1:zA0) (e:g d ρ S=.ok ρ1 S1) (t:zXn (b ρ1 S1) P)
inductive zXt (r:RS) (P:Env1→zA0→Prop):Prop
 | mk (ρ':Env1) (S':zA0) (e:r=.nx ρ' S') (p:P ρ' S')
theorem zAW {w:zD5}{g:G}{b:CS}{items:List D} (P:Nat→Env1→zA0→Prop) {ρ:Env1}{S:zA0} (hw:∀ i ρ S,P i ρ S→okW w S) (h0:P 0 ρ S)
  (hs:∀ i d ρ S,items[i]?=some d→P i ρ S→zXm g b d ρ S (P (i+1))):zXt (zAG w g b items ρ S) (P items.length):=by
 obtain ⟨ρ',S',e,p⟩:=zMU items P 0 hw h0 (fun i d ρ S hi hp=>by
  obtain ⟨ρ1,S1,q1,ρ2,S2,q2,q3⟩:=hs i d ρ S hi (by simpa using hp)
  exact ⟨ρ1,S1,q1,ρ2,S2,q2,by simpa using q3⟩)
 exact ⟨ρ',S',e,by simpa using p⟩
inductive zVh (m:R (List D)) (r:List D) (P:zA0→Prop):Prop
 | mk (S':zA0) (e:m=.ok r S') (p:P S')
theorem zBq {α:Type} (e:α→D) {w:zD5}{t:Tgt}{tc:CT}{c:C}{ρ0:Env1} (P:zA0→Prop) (hw:∀ S,P S→okW w S) (p:α→Bool) (f:α→D):∀ (l:List α) {S:zA0},P S →
  (∀ a∈l,∀ S,P S→∃ ρ1,zH9 t (e a) ρ0=some ρ1∧∃ S1,tc ρ1 S=.ok (p a) S1∧(p a=false→P S1)∧(p a=true→∃ S2,c ρ1 S1=.ok (f a) S2∧P S2))→zVh (zAo w t tc c ρ0 (l.map e) S) ((l.filter p).map f) P
 | [],S,h0,hs=>⟨S,by rw [qI1]; unfold zAo; rw [if_pos (hw S h0)]; rfl,h0⟩
 | d::ds,S,h0,hs=>by
  obtain ⟨ρ1,e1,S1,e2,hf,ht⟩:=hs d (by simp) S h0
  rw [qC1]
  unfold zAo
  rw [if_pos (hw S h0),e1]
  dsimp only
  rw [zCl,e2,zAx]
  cases hp:p d with
  | false =>
   obtain ⟨S',e3,h3⟩:=zBq e P hw p f ds (hf hp) fun d' hd=>hs d' (by simp [hd])
   exact ⟨S',by rw [if_neg qB1,e3,qF2,hp]; rfl,h3⟩
  | true =>
   obtain ⟨S2,e4,h4⟩:=ht hp
   obtain ⟨S',e3,h3⟩:=zBq e P hw p f ds h4 fun d' hd=>hs d' (by simp [hd])
   exact ⟨S',by rw [if_pos rfl,zCl,e4,zAx,zCl,e3,zAx,qF2,hp]; rfl,h3⟩
theorem zNL {α:Type} (e:α→D) {w:zD5}{t:Tgt}{c:C}{ρ0:Env1} (P:zA0→Prop) (hw:∀ S,P S→okW w S) (f:α→D) (l:List α) {S:zA0} (h0:P S)
  (hs:∀ a∈l,∀ S,P S→∃ ρ1,zH9 t (e a) ρ0=some ρ1∧∃ S2,c ρ1 S=.ok (f a) S2∧P S2):zVh (zAo w t (fun _=>ret true) c ρ0 (l.map e) S) (l.map f) P:=by
 obtain ⟨S',e,h⟩:=zBq e (w:=w) (t:=t) (tc:=fun _=>ret true) (c:=c) (ρ0:=ρ0) P hw (fun _=>true) f l h0 (fun d hd S h=>by
  obtain ⟨ρ1,e1,S2,e2,h2⟩:=hs d hd S h
  exact ⟨ρ1,e1,S,rfl,(fun z=>by cases z),fun _=>⟨S2,e2,h2⟩⟩)
 exact ⟨S',by rw [e,qQ1.mpr (by simp)],h⟩
theorem zAT {α:Type} (e:α→D) {w:zD5}{t:Tgt}{tc:CT}{c:C}{ρ0:Env1}{S:zA0} (hw:okW w S) (p:α→Bool) (f:α→D) (l:List α)
  (hs:∀ a∈l,∃ ρ1,zH9 t (e a) ρ0=some ρ1∧tc ρ1 S=.ok (p a) S∧(p a=true→c ρ1 S=.ok (f a) S)):zAo w t tc c ρ0 (l.map e) S=.ok ((l.filter p).map f) S:=by
 obtain ⟨S',e1,h⟩:=zBq e (w:=w) (t:=t) (tc:=tc) (c:=c) (ρ0:=ρ0) (fun S'=>S'=S) (fun S' z=>z▸hw) p f l rfl (fun a ha S' z=>by
  subst z
  obtain ⟨ρ1,q1,q2,q3⟩:=hs a ha
  exact ⟨ρ1,q1,S',q2,fun _=>rfl,fun z=>⟨S',q3 z,rfl⟩⟩)
 rw [e1,h]
theorem zEo {α:Type} (e:α→D) {w:zD5}{t:Tgt}{c:C}{ρ0:Env1}{S:zA0} (hw:okW w S) (f:α→D) (l:List α)
  (hs:∀ a∈l,∃ ρ1,zH9 t (e a) ρ0=some ρ1∧c ρ1 S=.ok (f a) S):zAo w t (fun _=>ret true) c ρ0 (l.map e) S=.ok (l.map f) S:=by
 have:=zAT e (tc:=fun _=>ret true) (c:=c) hw (fun _=>true) f l (fun a ha=>by
  obtain ⟨ρ1,q1,q2⟩:=hs a ha
  exact ⟨ρ1,q1,rfl,fun _=>q2⟩)
 rw [this,qQ1.mpr (by simp)]
theorem zGz {t:CT}{b:CS} (P:Nat→Env1→zA0→Prop) (Q:Env1→zA0→Prop) (hs:∀ m ρ S,P m ρ S→(∃ S1,t ρ S=.ok false S1∧Q ρ S1)∨∃ S1,t ρ S=.ok true S1∧∃ ρ2 S2,(b ρ S1=.nx ρ2 S2∨b ρ S1=.ct ρ2 S2)∧∃ m',m'<m∧P m' ρ2 S2) :
  ∀ (k m:Nat) (ρ:Env1) (S:zA0),m<k→P m ρ S→∃ ρ' S',zCK k t b ρ S=.nx ρ' S'∧Q ρ' S'
 | 0,m,ρ,S,hk,h=>absurd hk (qT0 _)
 | k+1,m,ρ,S,hk,h=>by
  unfold zCK
  rcases hs m ρ S h with ⟨S1,e,q⟩ | ⟨S1,e,ρ2,S2,e2,m',hm,p2⟩
  ·rw [e]; exact ⟨ρ,S1,rfl,q⟩
  ·obtain ⟨ρ',S',e3,q⟩:=zGz P Q hs k m' ρ2 S2 (by omega) p2
   rw [e]
   dsimp only
   rcases e2 with e2 | e2
   ·rw [e2]; exact ⟨ρ',S',e3,q⟩
   ·rw [e2]; exact ⟨ρ',S',e3,q⟩
noncomputable def dkOf (fs:List Int):List (Key × D):=fs.map fun x=>((Sum.inl x:Key),D.bl true)
noncomputable def addK (fs:List Int) (a:Int):List Int:=if a∈fs then fs else fs++[a]
theorem zUO (fs:List Int) (a:Int):((dkOf fs).any fun kv=>decide (kv.1=(Sum.inl a:Key)))=decide (a∈fs):=by
 induction fs with
 | nil=>rfl
 | cons x r ih =>
  show (decide ((Sum.inl x:Key)=Sum.inl a)||(dkOf r).any _)=_
  rw [ih]
  by_cases h:x=a
  ·subst h; simp
  ·have:(Sum.inl x:Key)≠Sum.inl a:=fun z=>h (Sum.inl.inj z)
   simp [this,Ne.symm h]
theorem zUN (fs:List Int) (a:Int):putD (dkOf fs) (.inl a) (.bl true)=dkOf (addK fs a):=by
 unfold putD addK
 rw [zUO]
 by_cases h:a∈fs
 ·rw [if_pos (by simpa using h),if_pos h]
  unfold dkOf
  rw [qF7]
  refine qM6 fun x _=>?_
  show (if (Sum.inl x:Key)=Sum.inl a then ((Sum.inl x:Key),D.bl true) else (Sum.inl x,D.bl true))=_
  split <;> rfl
 ·rw [if_neg (by simpa using h),if_neg h]
  unfold dkOf
  simp
theorem zUM (fs:List Int) (a:Int):valD (dkOf fs) (.inl a)=if a∈fs then some (.bl true) else none:=by
 unfold valD
 induction fs with
 | nil=>rfl
 | cons x r ih =>
  show Option.map _ (List.find? _ (((Sum.inl x:Key),D.bl true)::dkOf r))=_
  rw [qE5]
  by_cases h:x=a
  ·subst h; simp
  ·have:(Sum.inl x:Key)≠Sum.inl a:=fun z=>h (Sum.inl.inj z)
   simp only [this,decide_false]
   rw [ih]
   simp [Ne.symm h]
theorem zMO {S:zA0}{m:Nat}{fs:List Int} (h:S[m]?=some (.dk (dkOf fs))) (neg:Bool) (a:Int):oIn neg (.int a) (.dct m) S=.ok (.bl (if neg then !decide (a∈fs) else decide (a∈fs))) S:=by
 have e:dictAt S m (.int a)=some (if a∈fs then some (.bl true) else none):=by
  unfold dictAt
  rw [h]
  show some (valD (dkOf fs) (.inl a))=_
  rw [zUM]
 show (match dictAt S m (.int a) with | some o=>R.ok (D.bl (if neg then !o.isSome else o.isSome)) S | none=>.bad)=_
 rw [e]
 by_cases hm:a∈fs
 ·simp [hm]
 ·simp [hm]
theorem zML {S:zA0}{m:Nat}{fs:List Int} (h:S[m]?=some (.dk (dkOf fs))) (hl:fs.length<lim) (a:Int):oSet (.dct m) (.int a) (.bl true) S=some (S.set m (.dk (dkOf (addK fs a)))):=by
 unfold oSet
 dsimp only
 rw [h]
 show (if (dkOf fs).length<lim then some (S.set m (.dk (putD (dkOf fs) (.inl a) (.bl true)))) else none)=_
 rw [if_pos (by unfold dkOf; rw [qA2]; exact hl),zUN]
theorem zKl {fs:List Int}{a x:Int}:x∈addK fs a↔x∈fs∨x=a:=by
 unfold addK
 split
 ·rename_i h
  exact ⟨.inl,fun z=>z.elim id fun e=>e▸h⟩
 ·simp
@[simp] theorem zV6 (d:D) (ρ:Env1):zH9 .one d ρ=some (ρ.set 0 (some d)):=rfl
@[simp] theorem zV5 (x y:D) (ρ:Env1):zH9 (.many 2) (.tup [x,y]) ρ=some ((ρ.set 0 (some x)).set 1 (some y)):=rfl
@[simp] theorem zXx (k:Nat) (js:List Nat) (ρ:Env1):stE k js ρ=qJ8 k none++js.map fun j=>(ρ[j]?).getD none:=rfl
theorem zR0 {np nN:Nat}{b:CS}{ds:List D}{S:zA0} (h:ds.length=np):runF np nN b ds S=match b (zAu nN ds) S with
 | .nx _ S'=>.ok .non S'
 | .rt d S'=>.ok d S'
 | .er c S'=>.er c S'
 | _=>.bad:=by
 unfold runF
 rw [if_pos h]
 all_goals (cases b (zAu nN ds) S <;> rfl)
theorem zAc {np nN:Nat}{b:CS}{ds:List D}{S S':zA0}{d:D} (h:ds.length=np) (e:b (zAu nN ds) S=.rt d S'):runF np nN b ds S=.ok d S':=by rw [zR0 h,e]
open PySem
noncomputable def plain:Nat→D→Bool
 | 0,_=>false
 | n+1,d=>match d with
  | .int _=>true
  | .non=>true
  | .str x=>PyData.strOk x
  | .tup xs=>xs.all (plain n)
  | _=>false
noncomputable def pdat:Nat→D→PyData
 | 0,_=>.none
 | n+1,d=>match d with
  | .int i=>.int i
  | .str x=>.str x
  | .tup xs=>.tuple (xs.map (pdat n))
  | _=>.none
theorem zDQ {α β:Type}{f:α→Option β}{g:α→β}{l:List α} (h:∀ x∈l,f x=some (g x)):l.mapM f=some (l.map g):=by
 induction l with
 | nil=>rfl
 | cons a r ih =>
  rw [qF6,h a (by simp),ih fun x hx=>h x (by simp [hx])]
  rfl
theorem zDa:∀ {n:Nat}{d:D} (S:zA0),plain n d=true→snap n S d=some (pdat n d)
 | 0,d,S,h=>by cases h
 | n+1,d,S,h=>by
  unfold plain at h
  unfold snap pdat
  cases d with
  | int i=>rfl
  | non=>rfl
  | str x=>dsimp only at h ⊢; rw [if_pos h]
  | tup xs =>
   dsimp only at h ⊢
   rw [zDQ (g:=pdat n) fun x hx=>zDa S (qC2.mp h x hx)]
   rfl
  | _=>cases h
theorem zDg {n:Nat} (ih:∀ d e,plain n d=true→plain n e=true→(PyData.eqv (pdat n d) (pdat n e)=true↔d=e)):∀ (xs ys:List D),xs.all (plain n)=true→ys.all (plain n)=true→(PyData.eqvAll (xs.map (pdat n)) (ys.map (pdat n))=true↔xs=ys)
 | [],[],_,_=>by simp [PyData.eqvAll]
 | [],y::ys,_,_=>by simp [PyData.eqvAll]
 | x::xs,[],_,_=>by simp [PyData.eqvAll]
 | x::xs,y::ys,h1,h2=>by
  rw [qJ4,qC9] at h1 h2
  rw [qC1,qC1]
  show (PyData.eqv (pdat n x) (pdat n y)&&PyData.eqvAll (xs.map (pdat n)) (ys.map (pdat n)))=true↔_
  rw [qC9,ih x y h1.1 h2.1,zDg ih xs ys h1.2 h2.2,List.cons.injEq]
theorem zDY:∀ (n:Nat) (d e:D),plain n d=true→plain n e=true→(PyData.eqv (pdat n d) (pdat n e)=true↔d=e)
 | 0,d,e,h,_=>by cases h
 | n+1,d,e,h1,h2=>by
  unfold plain at h1 h2
  unfold pdat
  cases d with
  | int i =>
   cases e with
   | int j=>simp [PyData.eqv]
   | non=>simp [PyData.eqv]
   | str y=>simp [PyData.eqv]
   | tup ys=>simp [PyData.eqv]
   | _=>cases h2
  | non =>
   cases e with
   | int j=>simp [PyData.eqv]
   | non=>simp [PyData.eqv]
   | str y=>simp [PyData.eqv]
   | tup ys=>simp [PyData.eqv]
   | _=>cases h2
  | str x =>
   cases e with
   | int j=>simp [PyData.eqv]
   | non=>simp [PyData.eqv]
   | str y=>simp [PyData.eqv]
   | tup ys=>simp [PyData.eqv]
   | _=>cases h2
  | tup xs =>
   cases e with
   | int j=>simp [PyData.eqv]
   | non=>simp [PyData.eqv]
   | str y=>simp [PyData.eqv]
   | tup ys =>
    show PyData.eqvAll (xs.map (pdat n)) (ys.map (pdat n))=true↔_
    rw [zDg (zDY n) xs ys h1 h2]
    simp
   | _=>cases h2
  | _=>cases h1
noncomputable def eqB {α:Type} (x y:α):Bool:=@decide (x=y) (Classical.propDecidable _)
theorem zBi {α:Type}{x y:α}:eqB x y=true↔x=y:=@decide_eq_true_iff _ (Classical.propDecidable _)
@[simp] theorem zVD {α:Type} (x:α):eqB x x=true:=zBi.mpr rfl
theorem zI9 {α:Type}{x y:α} (h:x≠y):eqB x y=false:=by
 cases q:eqB x y with
 | false=>rfl
 | true=>exact absurd (zBi.mp q) h
theorem zAF {a b:Bool} (h:a=true↔b=true):a=b:=by cases a <;> cases b <;> simp at h ⊢
theorem zMM {x y:D} (S:zA0) (h1:plain 40 x=true) (h2:plain 40 y=true):oNe x y S=.ok (.bl (!eqB x y)) S:=by
 unfold oNe
 split
 ·rename_i a b
  rw [zAF (a:=decide (a=b)) (b:=eqB (D.str a) (D.str b)) (by rw [zBi,decide_eq_true_iff]; exact ⟨fun q=>by rw [q],fun q=>by injection q⟩)]
 ·rw [zDa S h1,zDa S h2]
  dsimp only
  rw [zAF ((zDY 40 x y h1 h2).trans zBi.symm)]
theorem zEJ {S:zA0}{k:Nat}{xs:List D} (h:zA4 S k=some xs) (hp:xs.all (plain 39)=true):snap 40 S (.lst k)=some (.list (xs.map (pdat 39))):=by
 show (match zA4 S k with | some xs=>(xs.mapM (snap 39 S)).map PyData.list | none=>none)=_
 rw [h]
 dsimp only
 rw [zDQ (g:=pdat 39) fun x hx=>zDa S (qC2.mp hp x hx)]
 rfl
theorem zGN {S:zA0}{a b:Nat}{xs ys:List D} (h1:zA4 S a=some xs) (h2:zA4 S b=some ys) (p1:xs.all (plain 39)=true) (p2:ys.all (plain 39)=true):oEq (.lst a) (.lst b) S=.ok (.bl (eqB xs ys)) S:=by
 unfold oEq
 dsimp only
 rw [zEJ h1 p1,zEJ h2 p2]
 dsimp only
 rw [zAF ((show PyData.eqv (.list (xs.map (pdat 39))) (.list (ys.map (pdat 39)))=true↔xs=ys from zDg (zDY 39) xs ys p1 p2).trans zBi.symm)]
theorem zRv {S:zA0}{a b:Nat}{xs ys:List D} (h1:zA4 S a=some xs) (h2:zA4 S b=some ys) (p1:xs.all (plain 39)=true) (p2:ys.all (plain 39)=true):oNe (.lst a) (.lst b) S=.ok (.bl (!eqB xs ys)) S:=by
 unfold oNe
 dsimp only
 rw [zEJ h1 p1,zEJ h2 p2]
 dsimp only
 rw [zAF ((show PyData.eqv (.list (xs.map (pdat 39))) (.list (ys.map (pdat 39)))=true↔xs=ys from zDg (zDY 39) xs ys p1 p2).trans zBi.symm)]
theorem zMv {n:Nat} (h:0<n) (i:Int):plain n (.int i)=true:=by
 cases n with
 | zero=>cases h
 | succ n=>rfl
theorem zDM {n:Nat}{xs:List D} (h:∀ x∈xs,plain n x=true):plain (n+1) (.tup xs)=true:=qC2.mpr h
theorem zBf {n:Nat} (h:0<n) (l:List Int):∀ x∈l.map D.int,plain n x=true:=fun x hx=>by
 obtain ⟨i,_,rfl⟩:=qC8.mp hx
 exact zMv h i
@[simp] theorem zPq (i:Int) (S:zA0):zBA [.int i,.ty "bool"] S=.ok (.bl false) S:=rfl
@[simp] theorem zQ8 (i:Int) (S:zA0):zBA [.int i,.ty "int"] S=.ok (.bl true) S:=rfl
@[simp] theorem zOh (i:Int) (S:zA0):zBA [.int i,.ty "tuple"] S=.ok (.bl false) S:=rfl
@[simp] theorem zPp (i:Int) (S:zA0):zBA [.int i,.ty "list"] S=.ok (.bl false) S:=rfl
@[simp] theorem zOj (b:Bool) (S:zA0):zBA [.bl b,.ty "bool"] S=.ok (.bl true) S:=rfl
@[simp] theorem zPr (b:Bool) (S:zA0):zBA [.bl b,.ty "int"] S=.ok (.bl true) S:=rfl
@[simp] theorem zNd (b:Bool) (S:zA0):zBA [.bl b,.ty "tuple"] S=.ok (.bl false) S:=rfl
@[simp] theorem zOi (b:Bool) (S:zA0):zBA [.bl b,.ty "list"] S=.ok (.bl false) S:=rfl
@[simp] theorem zKr  (S:zA0):zBA [.non,.ty "bool"] S=.ok (.bl false) S:=rfl
@[simp] theorem zLd  (S:zA0):zBA [.non,.ty "int"] S=.ok (.bl false) S:=rfl
@[simp] theorem zJb  (S:zA0):zBA [.non,.ty "tuple"] S=.ok (.bl false) S:=rfl
@[simp] theorem zKq  (S:zA0):zBA [.non,.ty "list"] S=.ok (.bl false) S:=rfl
@[simp] theorem zPo (x:Str) (S:zA0):zBA [.str x,.ty "bool"] S=.ok (.bl false) S:=rfl
@[simp] theorem zQ7 (x:Str) (S:zA0):zBA [.str x,.ty "int"] S=.ok (.bl false) S:=rfl
@[simp] theorem zOg (x:Str) (S:zA0):zBA [.str x,.ty "tuple"] S=.ok (.bl false) S:=rfl
@[simp] theorem zPn (x:Str) (S:zA0):zBA [.str x,.ty "list"] S=.ok (.bl false) S:=rfl
@[simp] theorem zNc (xs:List D) (S:zA0):zBA [.tup xs,.ty "bool"] S=.ok (.bl false) S:=rfl
@[simp] theorem zOf (xs:List D) (S:zA0):zBA [.tup xs,.ty "int"] S=.ok (.bl false) S:=rfl
@[simp] theorem zLS (xs:List D) (S:zA0):zBA [.tup xs,.ty "tuple"] S=.ok (.bl true) S:=rfl
@[simp] theorem zNb (xs:List D) (S:zA0):zBA [.tup xs,.ty "list"] S=.ok (.bl false) S:=rfl
open PySem
theorem zGl (ns:List Int):zCx (ns.map D.int)=some ns:=by
 induction ns with
 | nil=>rfl
 | cons a r ih=>show (zCx (r.map D.int)).map (a::·)=_; rw [ih]; rfl
theorem zF4 {α:Type} (e:α→D) {w:zD5}{g:G}{b:CS} (P:Env1→zA0→Prop) (R:zA0→Prop) (hw:∀ ρ S,P ρ S→okW w S) (p:α→Bool) (r:α→D):∀ (l:List α) {ρ:Env1}{S:zA0},P ρ S →
  (∀ a∈l,∀ ρ S,P ρ S→∃ ρ1 S1,g (e a) ρ S=.ok ρ1 S1∧((p a=true∧∃ S2,b ρ1 S1=.rt (r a) S2∧R S2)∨(p a=false∧∃ ρ2 S2,(b ρ1 S1=.nx ρ2 S2∨b ρ1 S1=.ct ρ2 S2)∧P ρ2 S2))) →
  (∃ a S',l.find? p=some a∧zAG w g b (l.map e) ρ S=.rt (r a) S'∧R S')∨(∃ ρ' S',l.find? p=none∧zAG w g b (l.map e) ρ S=.nx ρ' S'∧P ρ' S')
 | [],ρ,S,h0,hs=>.inr ⟨ρ,S,rfl,by rw [qI1]; unfold zAG; rw [if_pos (hw ρ S h0)],h0⟩
 | a::l,ρ,S,h0,hs=>by
  obtain ⟨ρ1,S1,e1,h⟩:=hs a (by simp) ρ S h0
  rw [qC1]
  unfold zAG
  rw [if_pos (hw ρ S h0),e1]
  dsimp only
  rcases h with ⟨hp,S2,e2,r2⟩ | ⟨hp,ρ2,S2,e2,p2⟩
  ·exact .inl ⟨a,S2,by rw [qE5,hp],by rw [e2],r2⟩
  ·rcases zF4 e P R hw p r l p2 (fun a ha=>hs a (by simp [ha])) with ⟨a',S',f1,f2,f3⟩ | ⟨ρ',S',f1,f2,f3⟩
   ·exact .inl ⟨a',S',by rw [qE5,hp]; exact f1,by rcases e2 with e2 | e2 <;> rw [e2] <;> exact f2,f3⟩
   ·exact .inr ⟨ρ',S',by rw [qE5,hp]; exact f1,by rcases e2 with e2 | e2 <;> rw [e2] <;> exact f2,f3⟩
theorem zOm {S:zA0}{n:Nat}{o:O} (h:S[n]?=some o) (ho:(match o with | .dk _=>true | .dt _=>true | _=>false)=true):tyOk "dict" (.dct n) S=true:=by
 show (decide ("dict" = "dict")&&(match S[n]? with | some (.dk _)=>true | some (.dt _)=>true | _=>false))=true
 rw [h]
 cases o <;> first | rfl | cases ho
end L2
namespace My
open PySem L2
noncomputable def zBl (cl:CLL):CS :=
 (sSeq (sRet (zO7 (cApp zBA (zA1 [(cVar 0),(cCon (.ty "int"))])) (zPH (cApp zBA (zA1 [(cVar 0),(cCon (.ty "bool"))])))))
  zA5)
def zDF (cl:Nat→CLL):Prop:=∀ n,cl (n+1) "is_whole"=runF 1 1 (zBl (cl n))
noncomputable def zBm (cl:CLL):CS :=
 (sSeq (sIf (zAk (cBin oNe (cBin (oIn false) (cBin oIx (cVar 4) (cCon (.int 0))) (cVar 2)) (cBin (oIn false) (cBin oIx (cVar 4) (cCon (.int 1))) (cVar 2)))) (sSeq (sAsg (cCon (.bl true)) (gS (cVar 2) (cBin oIx (cVar 4) (cCon (.int 0)))))
  (sSeq (sAsg (cCon (.bl true)) (gS (cVar 2) (cBin oIx (cVar 4) (cCon (.int 1)))))
  (sSeq (sAsg (cCon (.bl true)) (gN 3))
  zA5))) zA5)
  zA5)
noncomputable def zBn (cl:CLL):CS :=
 (sSeq (sAsg (cCon (.bl false)) (gN 3))
  (sSeq (sFor (iSeq (cVar 1)) (gN 4) (zBm cl))
  zA5))
noncomputable def zBK (cl:CLL):CS :=
 (sSeq (sAsg (zPI (cVar 0) (cCon (.bl true))) (gN 2))
  (sSeq (sAsg (cCon (.bl true)) (gN 3))
  (sSeq (zCK zIO (cTru (cVar 3)) (zBn cl))
  (sSeq (sRet (cVar 2))
  zA5))))
def zAU (cl:Nat→CLL):Prop:=∀ n,cl (n+1) "places_from"=runF 2 5 (zBK (cl n))
noncomputable def zHc (cl:CLL):CS :=
 (sSeq (sRet (cBin (oIn false) (cCon (.int 1)) (cApp (cl "places_from") (zA1 [(cCon (.int 0)),(cVar 0)]))))
  zA5)
def zHi (cl:Nat→CLL):Prop:=∀ n,cl (n+1) "joins"=runF 1 1 (zHc (cl n))
noncomputable def zBy (cl:CLL):CT :=
 (zAk (cBin (oIn false) (cVar 0) (cVar 1)))
noncomputable def zBz (cl:CLL):C :=
 (cVar 0)
noncomputable def zCk (cl:CLL):C :=
 (cApp (cl "is_whole") (zA1 [(cVar 0)]))
noncomputable def zC4 (cl:CLL):CS :=
 (sSeq (sIf (cOrT (zIt (cTru (cApp zBA (zA1 [(cVar 1),(cCon (.ty "tuple"))])))) (zIt (cTru (cApp (zCL fun bs=>bs.all id) (zA1 [(zBJ (iSeq (cVar 1)) 1 [] .one (fun _=>ret true) (zCk cl))]))))) (sSeq (sRet (cCon (.bl false)))
  zA5) zA5)
  (sSeq (sRet (cBin oEq (cApp zNt (zA1 [(cVar 1)])) (zBJ (zBE (zA1 [(cApp fLen (zA1 [(cBin oIx (cVar 0) (cCon (.int 2)))]))])) 1 [1] .one (zBy cl) (zBz cl))))
  zA5))
def zEF (cl:Nat→CLL):Prop:=∀ n,cl (n+1) "is_choice"=runF 2 2 (zC4 (cl n))
noncomputable def zE8 (cl:CLL):CT :=
 (zAk (cBin oNe (cVar 0) (cVar 1)))
noncomputable def zE9 (cl:CLL):C :=
 (cVar 0)
noncomputable def zE4 (cl:CLL):CS :=
 (sSeq (sRet (zBJ (iSeq (cVar 0)) 1 [1] .one (zE8 cl) (zE9 cl)))
  zA5)
def zEq (cl:Nat→CLL):Prop:=∀ n,cl (n+1) "without"=runF 2 2 (zE4 (cl n))
noncomputable def zBo (cl:CLL):CT :=
 (zAk (cBin (oIn true) (cVar 0) (cVar 2)))
noncomputable def zBp (cl:CLL):C :=
 (cVar 1)
noncomputable def zBc (cl:CLL):CS :=
 (sSeq (sRet (cApp (cl "joins") (zA1 [(zBJ (zEz (zA1 [(cBin oIx (cVar 0) (cCon (.int 2)))])) 2 [1] (.many 2) (zBo cl) (zBp cl))])))
  zA5)
def zDs (cl:Nat→CLL):Prop:=∀ n,cl (n+1) "join_beside"=runF 2 2 (zBc (cl n))
noncomputable def zD2 (cl:CLL):C :=
 (cApp (cl "join_beside") (zA1 [(cVar 1),(cApp (cl "without") (zA1 [(cVar 2),(cVar 0)]))]))
noncomputable def zE6 (cl:CLL):CS :=
 (sSeq (sIf (cOrT (zIt (cTru (cApp (cl "is_choice") (zA1 [(cVar 0),(cVar 1)])))) (cTru (cApp (cl "join_beside") (zA1 [(cVar 0),(cVar 1)])))) (sSeq (sRet (cCon (.bl false)))
  zA5) zA5)
  (sSeq (sRet (cApp (zCL fun bs=>bs.all id) (zA1 [(zBJ (iSeq (cVar 1)) 1 [0,1] .one (fun _=>ret true) (zD2 cl))])))
  zA5))
def zIM (cl:Nat→CLL):Prop:=∀ n,cl (n+1) "is_bar"=runF 2 2 (zE6 (cl n))
noncomputable def zCB (cl:CLL):CS :=
 (sSeq (sIf (zAk (cBin oEq (cBin oIx (cVar 0) (cCon (.int 0))) (cVar 1))) (sSeq (sRet (cBin oIx (cVar 0) (cCon (.int 1))))
  zA5) zA5)
  (sSeq (sIf (zAk (cBin oEq (cBin oIx (cVar 0) (cCon (.int 1))) (cVar 1))) (sSeq (sRet (cBin oIx (cVar 0) (cCon (.int 0))))
  zA5) zA5)
  (sSeq (sRet (cCon .non))
  zA5)))
def zEt (cl:Nat→CLL):Prop:=∀ n,cl (n+1) "far_end"=runF 2 2 (zCB (cl n))
noncomputable def zAL (cl:CLL):CS :=
 (sSeq (sAsg (cApp (cl "far_end") (zA1 [(cVar 5),(cBin oIx (cVar 1) (cUn oNeg (cCon (.int 1))))])) (gN 6))
  (sSeq (sIf (zIu (zAk (cBin zGb (cVar 6) (cCon .non))) (zAk (cBin (oIn true) (cVar 6) (cVar 1)))) (sSeq (zDv (zDo "list" zDA (cVar 3) (zA1 [(cApp (cl "ways_on") (zA1 [(cVar 0),(cBin oAdd (cVar 1) (cTup (zA1 [(cVar 6)]))),(cBin oAdd (cVar 2) (cTup (zA1 [(cVar 4)])))]))])))
  zA5) zA5)
  zA5))
noncomputable def zBX (cl:CLL):CS :=
 (sSeq (sIf (zAk (cBin oEq (cBin oIx (cVar 1) (cUn oNeg (cCon (.int 1)))) (cCon (.int 1)))) (sSeq (sRet (cLst (zA1 [(cApp zBa (zA1 [(cApp zAt (zA1 [(cVar 2)]))]))])))
  zA5) zA5)
  (sSeq (sAsg (cLst (zA1 [])) (gN 3))
  (sSeq (sFor (zEz (zA1 [(cVar 0)])) (gT [(gN 4),(gN 5)]) (zAL cl))
  (sSeq (sRet (cVar 3))
  zA5))))
def zGx (cl:Nat→CLL):Prop:=∀ n,cl (n+1) "ways_on"=runF 3 7 (zBX (cl n))
noncomputable def zCC (cl:CLL):CS :=
 (sSeq (sRet (cApp zAt (zA1 [(cApp (cl "ways_on") (zA1 [(cBin oIx (cVar 0) (cCon (.int 2))),(cTup (zA1 [(cCon (.int 0))])),(cTup (zA1 []))]))])))
  zA5)
def zFG (cl:Nat→CLL):Prop:=∀ n,cl (n+1) "all_ways"=runF 1 1 (zCC (cl n))
noncomputable def zAv (cl:CLL):C :=
 (cBin oAdd (cVar 0) (cTup (zA1 [(cVar 1)])))
noncomputable def zAf (cl:CLL):CS :=
 (sSeq (sAsg (cBin oAdd (cVar 1) (zBJ (iSeq (cVar 1)) 1 [2] .one (fun _=>ret true) (zAv cl))) (gN 1))
  zA5)
noncomputable def zAj (cl:CLL):CS :=
 (sSeq (sAsg (cLst (zA1 [(cTup (zA1 [(cCon (.int 0))]))])) (gN 1))
  (sSeq (sFor (zFi (zA1 [(cCon (.int 2)),(cVar 0)])) (gN 2) (zAf cl))
  (sSeq (sRet (cVar 1))
  zA5)))
def zAQ (cl:Nat→CLL):Prop:=∀ n,cl (n+1) "halves_with_start"=runF 1 3 (zAj (cl n))
noncomputable def zDN (cl:CLL):CT :=
 (zAk (cBin oNe (cBin (oIn false) (cBin oIx (cVar 1) (cCon (.int 0))) (cVar 2)) (cBin (oIn false) (cBin oIx (cVar 1) (cCon (.int 1))) (cVar 2))))
noncomputable def zDO (cl:CLL):C :=
 (cVar 0)
noncomputable def zE5 (cl:CLL):CS :=
 (sSeq (sRet (cApp zBa (zA1 [(zBJ (zEz (zA1 [(cBin oIx (cVar 0) (cCon (.int 2)))])) 2 [1] (.many 2) (zDN cl) (zDO cl))])))
  zA5)
def zFF (cl:Nat→CLL):Prop:=∀ n,cl (n+1) "out_of"=runF 2 2 (zE5 (cl n))
noncomputable def zB0 (cl:CLL):CS :=
 (sSeq (sAsg (cApp (cl "out_of") (zA1 [(cVar 0),(cVar 2)])) (gN 3))
  (sSeq (sIf (cTru (cApp (cl "is_bar") (zA1 [(cVar 0),(cVar 3)]))) (sSeq (sAsg (cCon (.bl true)) (gS (cVar 1) (cVar 3)))
  zA5) zA5)
  zA5))
noncomputable def zCD (cl:CLL):CS :=
 (sSeq (sAsg zJJ (gN 1))
  (sSeq (sFor (iSeq (cApp (cl "halves_with_start") (zA1 [(cBin oIx (cVar 0) (cCon (.int 1)))]))) (gN 2) (zB0 cl))
  (sSeq (sRet (cApp zAt (zA1 [(cVar 1)])))
  zA5)))
def zFH (cl:Nat→CLL):Prop:=∀ n,cl (n+1) "all_bars"=runF 1 4 (zCD (cl n))
noncomputable def zAp (cl:CLL):CS :=
 (sSeq (sAsg (cBin oIx (cBin oIx (cVar 0) (cCon (.int 2))) (cVar 3)) (gN 4))
  (sSeq (sIf (zAk (cBin oNe (zDo "dict" zGQ (cVar 2) (zA1 [(cBin oIx (cVar 4) (cCon (.int 2))),(cBin oIx (cVar 4) (cCon (.int 3)))])) (cBin oIx (cVar 4) (cCon (.int 3))))) (sSeq (sRet (cCon (.bl false)))
  zA5) zA5)
  zA5))
noncomputable def zC3 (cl:CLL):CS :=
 (sSeq (sAsg zJJ (gN 2))
  (sSeq (sFor (iSeq (cVar 1)) (gN 3) (zAp cl))
  (sSeq (sRet (cCon (.bl true)))
  zA5)))
def zEs (cl:Nat→CLL):Prop:=∀ n,cl (n+1) "is_live"=runF 2 5 (zC3 (cl n))
noncomputable def zCa (cl:CLL):CT :=
 (cTru (cApp (cl "is_live") (zA1 [(cVar 1),(cVar 0)])))
noncomputable def zCb (cl:CLL):C :=
 (cVar 0)
noncomputable def zBY (cl:CLL):CS :=
 (sSeq (sRet (zBJ (iSeq (cApp (cl "all_ways") (zA1 [(cVar 0)]))) 1 [0] .one (zCa cl) (zCb cl)))
  zA5)
def zEC (cl:Nat→CLL):Prop:=∀ n,cl (n+1) "live_ways"=runF 1 1 (zBY (cl n))
noncomputable def zCc (cl:CLL):CT :=
 (cTru (cApp (cl "is_live") (zA1 [(cVar 1),(cVar 0)])))
noncomputable def zCd (cl:CLL):C :=
 (cVar 0)
noncomputable def zBZ (cl:CLL):CS :=
 (sSeq (sRet (zBJ (iSeq (cApp (cl "all_bars") (zA1 [(cVar 0)]))) 1 [0] .one (zCc cl) (zCd cl)))
  zA5)
def zED (cl:Nat→CLL):Prop:=∀ n,cl (n+1) "live_bars"=runF 1 1 (zBZ (cl n))
noncomputable def zBb (cl:CLL):CS :=
 (sSeq (sIf (zAk (cBin oLt (cVar 1) (cApp fLen (zA1 [(cVar 0)])))) (sSeq (sRet (cBin oIx (cVar 0) (cVar 1)))
  zA5) zA5)
  (sSeq (sRet (cCon (.int 0)))
  zA5))
def zBs (cl:Nat→CLL):Prop:=∀ n,cl (n+1) "_law_cell_at"=runF 2 2 (zBb (cl n))
noncomputable def zC0 (cl:CLL):CS :=
 (sSeq (sAsg (cApp (cl "_law_cell_at") (zA1 [(cVar 0),(cVar 1)])) (gN 2))
  (sSeq (sIf (zAk (cBin (oCmp fun i j=>decide (j≤i)) (cVar 2) (cBin oPow (cCon (.int 10)) (cCon (.int 18))))) (sSeq (sRet (cLst (zA1 [(cBin (oInt fun i j=>i - j) (cVar 2) (cBin oPow (cCon (.int 10)) (cCon (.int 18)))),(cCon (.bl true))])))
  zA5) zA5)
  (sSeq (sRet (cLst (zA1 [(cBin oMod (cVar 2) (cCon (.int 2147483647))),(cCon (.bl false))])))
  zA5)))
def zD7 (cl:Nat→CLL):Prop:=∀ n,cl (n+1) "_law_state"=runF 2 3 (zC0 (cl n))
noncomputable def zCy (cl:CLL):CS :=
 (sSeq (sIf (cTru (cBin oIx (cVar 0) (cCon (.int 1)))) (sSeq (sAsg (cBin oMod (cBin oIx (cVar 0) (cCon (.int 0))) (cVar 1)) (gN 2))
  (sSeq (sAsg (cBin oDiv (cBin oIx (cVar 0) (cCon (.int 0))) (cVar 1)) (gS (cVar 0) (cCon (.int 0))))
  (sSeq (sRet (cVar 2))
  zA5))) zA5)
  (sSeq (sAsg (cBin oMod (cBin oAdd (cBin oMul (cBin oIx (cVar 0) (cCon (.int 0))) (cCon (.int 48271))) (cCon (.int 29))) (cCon (.int 2147483647))) (gS (cVar 0) (cCon (.int 0))))
  (sSeq (sAsg (cBin oMod (cBin oAdd (cBin oAdd (cBin oMul (cBin oIx (cVar 0) (cCon (.int 0))) (cBin oIx (cVar 0) (cCon (.int 0)))) (cBin oMul (cCon (.int 39373)) (cBin oIx (cVar 0) (cCon (.int 0))))) (cCon (.int 7))) (cCon (.int 2147483629))) (gN 3))
  (sSeq (sAsg (cBin oMod (cBin oAdd (cBin oMul (cVar 3) (cVar 3)) (cBin oMul (cCon (.int 16807)) (cVar 3))) (cCon (.int 2147483587))) (gN 3))
  (sSeq (sRet (cBin oMod (cBin oDiv (cVar 3) (cCon (.int 8))) (cVar 1)))
  zA5)))))
def zC6 (cl:Nat→CLL):Prop:=∀ n,cl (n+1) "_law_take"=runF 2 4 (zCy (cl n))
noncomputable def zCA (cl:CLL):CS :=
 (sSeq (sAsg (cBin oAdd (cBin oAdd (cLst (zA1 [(cCon (.int 0))])) (cApp zEB (zA1 [(cCon (.int 2)),(cVar 1)]))) (cLst (zA1 [(cCon (.int 1))]))) (gN 2))
  (sSeq (sAsg (cApp (cl "_law_take") (zA1 [(cVar 0),(cBin (oInt fun i j=>i - j) (cVar 1) (cCon (.int 1)))])) (gN 3))
  (sSeq (sAsg (cBin oAdd (cVar 3) (cCon (.int 1))) (gN 4))
  (sSeq (sIf (zAk (cBin oEq (cApp (cl "_law_take") (zA1 [(cVar 0),(cCon (.int 3))])) (cCon (.int 0)))) (sSeq (sAsg (cBin oAdd (cBin oAdd (cVar 3) (cCon (.int 1))) (cApp (cl "_law_take") (zA1 [(cVar 0),(cBin (oInt fun i j=>i - j) (cBin (oInt fun i j=>i - j) (cVar 1) (cCon (.int 1))) (cVar 3))]))) (gN 4))
  zA5) zA5)
  (sSeq (sRet (cTup (zA1 [(cApp fMin (zA1 [(cBin oIx (cVar 2) (cVar 3)),(cBin oIx (cVar 2) (cVar 4))])),(cApp fMax (zA1 [(cBin oIx (cVar 2) (cVar 3)),(cBin oIx (cVar 2) (cVar 4))]))])))
  zA5)))))
def zCJ (cl:Nat→CLL):Prop:=∀ n,cl (n+1) "_law_ends"=runF 2 5 (zCA (cl n))
noncomputable def zCw (cl:CLL):CS :=
 (sSeq (zDv (zDo "list" (zBg zEn) (cVar 11) (zA1 [(cApp (cl "_law_take") (zA1 [(cVar 0),(cBin oAdd (cApp fLen (zA1 [(cVar 11)])) (cCon (.int 1)))])),(cVar 12)])))
  zA5)
noncomputable def zDe (cl:CLL):CS :=
 (sSeq (zDv (zDo "list" (zBg zAy) (cVar 6) (zA1 [(cBin oAdd (cApp (cl "_law_ends") (zA1 [(cVar 0),(cVar 5)])) (cTup (zA1 [(cApp (cl "_law_take") (zA1 [(cVar 0),(cVar 4)])),(cApp (cl "_law_take") (zA1 [(cVar 0),(cCon (.int 2))]))])))])))
  zA5)
noncomputable def zEl (cl:CLL):CS :=
 (sSeq (zDv (zDo "list" (zBg zAy) (cVar 6) (zA1 [(cTup (zA1 [(cApp fMin (zA1 [(cVar 8),(cVar 9)])),(cApp fMax (zA1 [(cVar 8),(cVar 9)])),(cApp (cl "_law_take") (zA1 [(cVar 0),(cVar 4)])),(cApp (cl "_law_take") (zA1 [(cVar 0),(cCon (.int 2))]))]))])))
  zA5)
noncomputable def zCz (cl:CLL):CS :=
 (sSeq (sAsg (cBin oAdd (cCon (.int 1)) (cApp (cl "_law_take") (zA1 [(cVar 0),(cVar 1)]))) (gN 4))
  (sSeq (sAsg (cBin oAdd (cCon (.int 2)) (cApp (cl "_law_take") (zA1 [(cVar 0),(cBin (oInt fun i j=>i - j) (cVar 2) (cCon (.int 1)))]))) (gN 5))
  (sSeq (sAsg (cLst (zA1 [])) (gN 6))
  (sSeq (sAsg (cBin oAdd (cBin oAdd (cLst (zA1 [(cCon (.int 0))])) (cApp zEB (zA1 [(cCon (.int 2)),(cVar 5)]))) (cLst (zA1 [(cCon (.int 1))]))) (gN 7))
  (sSeq (sIf (zIu (zAk (cBin oEq (cApp (cl "_law_take") (zA1 [(cVar 0),(cCon (.int 2))])) (cCon (.int 0)))) (zAk (cBin (oCmp fun i j=>decide (i≤j)) (cBin (oInt fun i j=>i - j) (cVar 5) (cCon (.int 1))) (cVar 3)))) (sSeq (sFor (zPt (zA1 [(cVar 7),(cSl oSl (cVar 7) (zH7 (cCon (.int 1))) zFv)])) (gT [(gN 8),(gN 9)]) (zEl cl))
  zA5) zA5)
  (sSeq (sFor (zBE (zA1 [(cApp (cl "_law_take") (zA1 [(cVar 0),(cBin oAdd (cBin (oInt fun i j=>i - j) (cVar 3) (cApp fLen (zA1 [(cVar 6)]))) (cCon (.int 1)))]))])) (gN 10) (zDe cl))
  (sSeq (sAsg (cLst (zA1 [])) (gN 11))
  (sSeq (sFor (iSeq (cVar 6)) (gN 12) (zCw cl))
  (sSeq (sRet (cTup (zA1 [(cVar 4),(cVar 5),(cApp zBa (zA1 [(cVar 11)]))])))
  zA5)))))))))
def zEr (cl:Nat→CLL):Prop:=∀ n,cl (n+1) "_law_net"=runF 4 13 (zCz (cl n))
noncomputable def zAq (cl:CLL):CS :=
 (sSeq (sIf (zIu (zAk (cBin (oIn false) (cBin oIx (cVar 3) (cUn oNeg (cCon (.int 1)))) (cSl oSl (cVar 6) zFv (zH7 (cCon (.int 2)))))) (zAk (cBin (oIn true) (cBin (oInt fun i j=>i - j) (cBin oAdd (cBin oIx (cVar 6) (cCon (.int 0))) (cBin oIx (cVar 6) (cCon (.int 1)))) (cBin oIx (cVar 3) (cUn oNeg (cCon (.int 1))))) (cVar 3)))) (sSeq (zDv (zDo "list" (zBg zAy) (cVar 2) (zA1 [(cTup (zA1 [(cBin oAdd (cVar 3) (cTup (zA1 [(cBin (oInt fun i j=>i - j) (cBin oAdd (cBin oIx (cVar 6) (cCon (.int 0))) (cBin oIx (cVar 6) (cCon (.int 1)))) (cBin oIx (cVar 3) (cUn oNeg (cCon (.int 1)))))]))),(cBin oAdd (cVar 4) (cTup (zA1 [(cVar 5)])))]))])))
  zA5) zA5)
  zA5)
noncomputable def zAr (cl:CLL):CS :=
 (sSeq (sAsg (zKF "list" (zBg gPop) (cVar 2)) (gT [(gN 3),(gN 4)]))
  (sSeq (sIf (zAk (cBin oEq (cBin oIx (cVar 3) (cUn oNeg (cCon (.int 1)))) (cCon (.int 1)))) (sSeq (zDv (zDo "list" (zBg zAy) (cVar 1) (zA1 [(cApp zBa (zA1 [(cApp zAt (zA1 [(cVar 4)]))]))])))
  (sSeq sCnt
  zA5)) zA5)
  (sSeq (sFor (zEz (zA1 [(cBin oIx (cVar 0) (cCon (.int 2)))])) (gT [(gN 5),(gN 6)]) (zAq cl))
  zA5)))
noncomputable def zC2 (cl:CLL):CS :=
 (sSeq (sAsg (cLst (zA1 [])) (gN 1))
  (sSeq (sAsg (cLst (zA1 [(cTup (zA1 [(cTup (zA1 [(cCon (.int 0))])),(cTup (zA1 []))]))])) (gN 2))
  (sSeq (zCK zIO (zAk (cBin oNe (cVar 2) (cLst (zA1 [])))) (zAr cl))
  (sSeq (sRet (cApp zAt (zA1 [(cVar 1)])))
  zA5))))
def zD8 (cl:Nat→CLL):Prop:=∀ n,cl (n+1) "_law_paths"=runF 1 7 (zC2 (cl n))
noncomputable def zBG (cl:CLL):CT :=
 (zAk (cBin (oIn true) (cVar 0) (cVar 1)))
noncomputable def zBH (cl:CLL):C :=
 (cVar 0)
noncomputable def zBC (cl:CLL):CS :=
 (sSeq (sRet (cBin oEq (zBJ (iSeq (cVar 0)) 1 [1] .one (zBG cl) (zBH cl)) (cLst (zA1 []))))
  zA5)
def zCI (cl:Nat→CLL):Prop:=∀ n,cl (n+1) "_law_within"=runF 2 2 (zBC (cl n))
noncomputable def zAH (cl:CLL):CT :=
 (zIu (zAk (cBin oNe (cVar 0) (cVar 1))) (cTru (cApp (cl "_law_within") (zA1 [(cVar 0),(cVar 1)]))))
noncomputable def zCi (cl:CLL):C :=
 (cVar 0)
noncomputable def zBv (cl:CLL):CT :=
 (zAk (cBin oEq (zBJ (iSeq (cVar 1)) 1 [0] .one (zAH cl) (zCi cl)) (cLst (zA1 []))))
noncomputable def zCj (cl:CLL):C :=
 (cVar 0)
noncomputable def zCf (cl:CLL):CT :=
 (zAk (cBin oNe (cBin (oIn false) (cBin oIx (cVar 1) (cCon (.int 0))) (cVar 2)) (cBin (oIn false) (cBin oIx (cVar 1) (cCon (.int 1))) (cVar 2))))
noncomputable def zCh (cl:CLL):C :=
 (cVar 0)
noncomputable def zCe (cl:CLL):CT :=
 (zAk (cBin oEq (cBin (oInt Builtin.bitAnd) (cBin oShr (cVar 1) (cBin (oInt fun i j=>i - j) (cVar 0) (cCon (.int 2)))) (cCon (.int 1))) (cCon (.int 1))))
noncomputable def zCg (cl:CLL):C :=
 (cVar 0)
noncomputable def zB3 (cl:CLL):CS :=
 (sSeq (sAsg (cBin oAdd (cLst (zA1 [(cCon (.int 0))])) (zBJ (zFi (zA1 [(cCon (.int 2)),(cBin oIx (cVar 0) (cCon (.int 1)))])) 1 [2] .one (zCe cl) (zCg cl))) (gN 3))
  (sSeq (sAsg (cCon (.bl true)) (gS (cVar 1) (cApp zBa (zA1 [(zBJ (zEz (zA1 [(cBin oIx (cVar 0) (cCon (.int 2)))])) 2 [3] (.many 2) (zCf cl) (zCh cl))]))))
  zA5))
noncomputable def zC1 (cl:CLL):CS :=
 (sSeq (sAsg zJJ (gN 1))
  (sSeq (sFor (zBE (zA1 [(cBin oShl (cCon (.int 1)) (cBin (oInt fun i j=>i - j) (cBin oIx (cVar 0) (cCon (.int 1))) (cCon (.int 2))))])) (gN 2) (zB3 cl))
  (sSeq (sAsg (cApp zAt (zA1 [(cVar 1)])) (gN 4))
  (sSeq (sRet (zBJ (iSeq (cVar 4)) 1 [4] .one (zBv cl) (zCj cl)))
  zA5))))
def zEE (cl:Nat→CLL):Prop:=∀ n,cl (n+1) "_law_shuts"=runF 1 5 (zC1 (cl n))
noncomputable def zBV (cl:CLL):C :=
 (cBin (oInt Builtin.bitAnd) (cBin oShr (cVar 1) (cBin (oInt fun i j=>i - j) (cBin (oInt fun i j=>i - j) (cVar 2) (cCon (.int 1))) (cVar 0))) (cCon (.int 1)))
noncomputable def zBU (cl:CLL):CS :=
 (sSeq (zDv (zDo "list" (zBg zAy) (cVar 1) (zA1 [(cApp zBa (zA1 [(zBJ (zBE (zA1 [(cVar 0)])) 1 [2,0] .one (fun _=>ret true) (zBV cl))]))])))
  zA5)
noncomputable def zBr (cl:CLL):CS :=
 (sSeq (sAsg (cLst (zA1 [])) (gN 1))
  (sSeq (sFor (zBE (zA1 [(cBin oShl (cCon (.int 1)) (cVar 0))])) (gN 2) (zBU cl))
  (sSeq (sRet (cVar 1))
  zA5)))
def zAK (cl:Nat→CLL):Prop:=∀ n,cl (n+1) "_law_settings"=runF 1 3 (zBr (cl n))
noncomputable def zB4 (cl:CLL):CT :=
 (zAk (cBin oNe (cBin oIx (cVar 1) (cBin oIx (cBin oIx (cBin oIx (cVar 2) (cCon (.int 2))) (cVar 0)) (cCon (.int 2)))) (cBin oIx (cBin oIx (cBin oIx (cVar 2) (cCon (.int 2))) (cVar 0)) (cCon (.int 3)))))
noncomputable def zBw (cl:CLL):C :=
 (cVar 0)
noncomputable def zAz (cl:CLL):CS :=
 (sSeq (sIf (zAk (cBin oEq (zBJ (iSeq (cVar 1)) 1 [2,0] .one (zB4 cl) (zBw cl)) (cLst (zA1 [])))) (sSeq (sRet (cCon (.bl true)))
  zA5) zA5)
  zA5)
noncomputable def zAZ (cl:CLL):CS :=
 (sSeq (sFor (iSeq (cApp (cl "_law_settings") (zA1 [(cBin oIx (cVar 0) (cCon (.int 0)))]))) (gN 2) (zAz cl))
  (sSeq (sRet (cCon (.bl false)))
  zA5))
def zD9 (cl:Nat→CLL):Prop:=∀ n,cl (n+1) "_law_alive"=runF 2 3 (zAZ (cl n))
noncomputable def zBh (cl:CLL):CT :=
 (zAk (cBin oEq (cBin oIx (cVar 1) (cBin oIx (cBin oIx (cBin oIx (cVar 2) (cCon (.int 2))) (cVar 0)) (cCon (.int 2)))) (cBin oIx (cBin oIx (cBin oIx (cVar 2) (cCon (.int 2))) (cVar 0)) (cCon (.int 3)))))
noncomputable def zBW (cl:CLL):C :=
 (cVar 0)
noncomputable def zAI (cl:CLL):CS :=
 (sSeq (sIf (zAk (cBin oEq (zBJ (iSeq (cVar 1)) 1 [2,0] .one (zBh cl) (zBW cl)) (cLst (zA1 [])))) (sSeq (sRet (cCon (.bl true)))
  zA5) zA5)
  zA5)
noncomputable def zBk (cl:CLL):CS :=
 (sSeq (sFor (iSeq (cApp (cl "_law_settings") (zA1 [(cBin oIx (cVar 0) (cCon (.int 0)))]))) (gN 2) (zAI cl))
  (sSeq (sRet (cCon (.bl false)))
  zA5))
def zDE (cl:Nat→CLL):Prop:=∀ n,cl (n+1) "_law_open"=runF 2 3 (zBk (cl n))
noncomputable def zDj (cl:CLL):CS :=
 (sSeq (sRet (cBin oEq (cApp zJs (zA1 [(cVar 0)])) (cApp zJs (zA1 [(cVar 1)]))))
  zA5)
def zDD (cl:Nat→CLL):Prop:=∀ n,cl (n+1) "_law_same"=runF 2 2 (zDj (cl n))
noncomputable def zCZ (cl:CLL):CS :=
 (sSeq (sAsg (cApp (cl "live_ways") (zA1 [(cVar 3)])) (gN 7))
  (sSeq (sAsg (cApp (cl "live_bars") (zA1 [(cVar 3)])) (gN 8))
  (sSeq (sIf (cOrT (zIt (cTru (cApp (cl "_law_same") (zA1 [(cVar 7),(cVar 4)])))) (zIt (cTru (cApp (cl "_law_same") (zA1 [(cVar 8),(cVar 5)]))))) (sSeq (sRet (cCon (.bl false)))
  zA5) zA5)
  (sSeq (zDv (zDo "list" (zBg zAy) (cVar 7) (zA1 [(cTup (zA1 []))])))
  (sSeq (zDv (zDo "list" (zBg zAy) (cVar 8) (zA1 [(cTup (zA1 []))])))
  zA5)))))
noncomputable def zDU (cl:CLL):CT :=
 (cTru (cApp (cl "_law_open") (zA1 [(cVar 1),(cVar 0)])))
noncomputable def zDW (cl:CLL):C :=
 (cVar 0)
noncomputable def zDT (cl:CLL):CT :=
 (cTru (cApp (cl "_law_alive") (zA1 [(cVar 1),(cVar 0)])))
noncomputable def zDV (cl:CLL):C :=
 (cVar 0)
noncomputable def zD0 (cl:CLL):CS :=
 (sSeq (sAsg (cApp (cl "_law_state") (zA1 [(cVar 0),(cVar 1)])) (gN 2))
  (sSeq (sAsg (cApp (cl "_law_net") (zA1 [(cVar 2),(cCon (.int 4)),(cCon (.int 7)),(cBin oIx (cLst (zA1 [(cCon (.int 6)),(cCon (.int 9)),(cCon (.int 12))])) (cApp (cl "_law_take") (zA1 [(cVar 2),(cCon (.int 3))])))])) (gN 3))
  (sSeq (sAsg (zBJ (iSeq (cApp (cl "_law_paths") (zA1 [(cVar 3)]))) 1 [3] .one (zDT cl) (zDV cl)) (gN 4))
  (sSeq (sAsg (zBJ (iSeq (cApp (cl "_law_shuts") (zA1 [(cVar 3)]))) 1 [3] .one (zDU cl) (zDW cl)) (gN 5))
  (sSeq (sFor (zBE (zA1 [(cCon (.int 2))])) (gN 6) (zCZ cl))
  zA5)))))
noncomputable def zEO (cl:CLL):CS :=
 (sSeq (sFor (zBE (zA1 [(cApp fMax (zA1 [(cCon (.int 1)),(cApp fMin (zA1 [(cApp fLen (zA1 [(cVar 0)])),(cCon (.int 8))]))]))])) (gN 1) (zD0 cl))
  (sSeq (sRet (cCon (.bl true)))
  zA5))
def zIL (cl:Nat→CLL):Prop:=∀ n,cl (n+1) "law"=runF 1 9 (zEO (cl n))
variable {cl:Nat→CLL}
theorem zNS (h:zBs cl) (n:Nat) (ns:List Int) (k:Int) (hk:0≤k) (S:zA0):∃ c,cl (n+1) "_law_cell_at" [.rol (ns.map D.int),.int k] S=.ok (.int c) S:=by
 by_cases hl:k<ns.length
 ·refine ⟨ns[k.toNat]'(by omega),?_⟩
  have e:atI (ns.map D.int) k=some (.int (ns[k.toNat]'(by omega))):=by
   have q:=zCH (xs:=ns.map D.int) (j:=k.toNat) (v:=.int (ns[k.toNat]'(by omega))) (by rw [qB7,qA6 (by omega)]; rfl)
   rw [show ((k.toNat:Nat):Int)=k by omega] at q
   exact q
  rw [h]
  refine zAc rfl ?_
  simp [zBb,zAu,hl,e]
 ·refine ⟨0,?_⟩
  rw [h]
  refine zAc rfl ?_
  simp [zBb,zAu,hl]
def StOk (S:zA0) (i:Nat):Prop:=∃ s b,zA4 S i=some [.int s,.bl b]∧(b=false→0≤s∧s<2147483647)
theorem StOk.lt {S:zA0}{i:Nat} (h:StOk S i):i<S.length:=by
 obtain ⟨s,b,e,_⟩:=h
 exact zC9 e
theorem StOk.ex {S S':zA0}{i:Nat} (h:StOk S i) (e:Ex S S'):StOk S' i:=by
 obtain ⟨s,b,q,r⟩:=h
 exact ⟨s,b,e.lst q (fun z=>z),r⟩
theorem zKT (h:zD7 cl) (hc:zBs cl) (n:Nat) (ns:List Int) (k:Int) (hk:0≤k) (S:zA0):∃ S1,cl (n+2) "_law_state" [.rol (ns.map D.int),.int k] S=.ok (.lst S.length) S1∧Ex S S1∧StOk S1 S.length:=by
 obtain ⟨c,ec⟩:=zNS hc n ns k hk S
 rw [show n+2=(n+1)+1 from rfl,h]
 by_cases hb:(1000000000000000000:Int)≤c
 ·refine ⟨S++[.lst [.int (c - 1000000000000000000),.bl true]],zAc rfl ?_,zA8 _ _,_,_,zA2 _ _,fun z=>by cases z⟩
  simp [zC0,zAu,ec,hb]
 ·refine ⟨S++[.lst [.int (c % 2147483647),.bl false]],zAc rfl ?_,zA8 _ _,_,_,zA2 _ _,fun _=>⟨qK3 _ (by decide),qJ0 _ (by decide)⟩⟩
  simp [zC0,zAu,ec,hb]
theorem zF0 {i j:Int} (h1:-18446744073709551616<j) (h2:j<18446744073709551616):zF1 i j=true:=by
 unfold zF1; simp [h1,h2]
@[simp] theorem zVx:ixN 2 0=some 0:=rfl
inductive zXo (c:CLL) (S:zA0) (i:Nat) (m:Int):Prop
 | mk (r:Int) (S1:zA0) (e:c "_law_take" [.lst i,.int m] S=.ok (.int r) S1) (a:0≤r) (b:r<m) (k:Kp (·=i) S S1) (l:S1.length=S.length) (st:StOk S1 i)
theorem zAw (h:zC6 cl) (n:Nat) {S:zA0}{i:Nat} (hS:StOk S i) {m:Int} (m0:0<m) (m1:m<1073741824):zXo (cl (n+1)) S i m:=by
 obtain ⟨s,b,hs,hb⟩:=hS
 have e0:=zEX hs
 cases b with
 | true =>
  refine ⟨s % m,S.set i (.lst [.int (s / m),.bl true]),?_,qK3 _ (by omega),qJ0 _ m0,zBx _ _,by simp,⟨_,_,zAS hs,fun z=>by cases z⟩⟩
  rw [h]
  refine zAc rfl ?_
  simp [zCy,zAu,e0,m0,m1,zKf hs]
 | false =>
  obtain ⟨s0,s1⟩:=hb rfl
  generalize hz:(s*48271+29) % 2147483647=z
  have z0:0≤z:=by rw [← hz]; exact qK3 _ (by decide)
  have z1:z<2147483647:=by rw [← hz]; exact qJ0 _ (by decide)
  generalize hy:(z*z+39373*z+7) % 2147483629=y
  have y0:0≤y:=by rw [← hy]; exact qK3 _ (by decide)
  have y1:y<2147483629:=by rw [← hy]; exact qJ0 _ (by decide)
  generalize hx:(y*y+16807*y) % 2147483587=x
  refine ⟨x / 8 % m,S.set i (.lst [.int z,.bl false]),?_,qK3 _ (by omega),qJ0 _ m0,zBx _ _,by simp,⟨_,_,zAS hs,fun _=>⟨z0,z1⟩⟩⟩
  rw [h]
  refine zAc rfl ?_
  have e1:=zEX (zAS (ys:=[.int z,.bl false]) hs)
  have k1:zF1 s 48271=true:=zF0 (by decide) (by decide)
  have k2:zF1 z z=true:=zF0 (by omega) (by omega)
  have k3:zF1 39373 z=true:=zF0 (by omega) (by omega)
  have k4:zF1 y y=true:=zF0 (by omega) (by omega)
  have k5:zF1 16807 y=true:=zF0 (by omega) (by omega)
  simp [zCy,zAu,e0,zKf hs,k1,hz,e1,k2,k3,hy,k4,k5,hx,m0]
structure Ct where
 a:Int
 b:Int
 k:Int
 o:Int
 deriving DecidableEq
noncomputable def Ct.d (c:Ct):D:=.tup [.int c.a,.int c.b,.int c.k,.int c.o]
def Ct.ok (sw pl:Int) (c:Ct):Prop:=0≤c.a∧c.a<c.b∧c.b<pl∧0≤c.k∧c.k<sw∧0≤c.o∧c.o<2
structure Net where
 sw:Int
 pl:Int
 cs:List Ct
noncomputable def Net.d (n:Net):D:=.tup [.int n.sw,.int n.pl,.tup (n.cs.map Ct.d)]
structure Net.ok (ms mp mc:Int) (n:Net):Prop where
 s1:1≤n.sw
 s2:n.sw≤ms
 p1:2≤n.pl
 p2:n.pl≤mp
 c1:(n.cs.length:Int)≤mc
 c2:∀ c∈n.cs,c.ok n.sw n.pl
theorem zEK {S:zA0}{n m:Nat}{xs ys:List D} (h1:zA4 S n=some xs) (h2:zA4 S m=some ys) (h:xs.length+ys.length≤lim):oAdd (.lst n) (.lst m) S=.ok (.lst S.length) (S++[.lst (xs++ys)]):=by
 show (match S[n]?,S[m]? with | some (O.lst xs),some (O.lst ys)=>(if xs.length+ys.length≤lim then R.ok (D.lst S.length) (S++[O.lst (xs++ys)]) else .bad) | _,_=>.bad)=_
 rw [zAE h1,zAE h2]
 dsimp only
 rw [if_pos h]
noncomputable def rowL (n:Int):List Int:=[0]++((List.range (n - 2).toNat).map fun (k:Nat)=>(2:Int)+(k:Nat))++[1]
noncomputable def rowJ (n i:Int):Int:=if i=0 then 0 else if i=n - 1 then 1 else i+1
theorem zGI {n:Int} (h2:2≤n):(rowL n).length=n.toNat:=by unfold rowL; simp; omega
theorem zK7 {n:Int}{i:Nat} (h2:2≤n) (hi:(i:Int)<n):(rowL n)[i]?=some (rowJ n i):=by
 unfold rowL rowJ
 by_cases h0:i=0
 ·subst h0; simp
 ·rw [if_neg (by omega)]
  by_cases hl:(i:Int)=n - 1
  ·rw [if_pos hl,qA0 (by simp; omega)]
   have:i - ([0]++((List.range (n - 2).toNat).map fun (k:Nat)=>(2:Int)+(k:Nat))).length=0:=by simp; omega
   rw [this]; rfl
  ·rw [if_neg hl,qA7 (by simp; omega),qA0 (by simp; omega)]
   simp only [qD0,qI0,qB7]
   rw [qI4 (by omega)]
   simp
   omega
theorem zMs {n i:Int} (h2:2≤n) (h0:0≤i) (hi:i<n):atI ((rowL n).map D.int) i=some (.int (rowJ n i)):=by
 have q:=zCH (xs:=(rowL n).map D.int) (j:=i.toNat) (v:=.int (rowJ n i.toNat)) (by rw [qB7,zK7 h2 (by omega)]; rfl)
 rw [show ((i.toNat:Nat):Int)=i by omega] at q
 exact q
theorem zGJ {n i:Int} (h2:2≤n) (h0:0≤i) (hi:i<n):0≤rowJ n i∧rowJ n i<n:=by
 unfold rowJ; split <;> (try split) <;> omega
theorem zMt {n i j:Int} (h2:2≤n) (h0:0≤i) (hij:i<j) (hj:j<n):rowJ n i≠rowJ n j:=by
 unfold rowJ; split <;> split <;> (try split) <;> (try split) <;> omega
theorem mima {x y n:Int} (hx:0≤x∧x<n) (hy:0≤y∧y<n) (h:x≠y):0≤(if y<x then y else x)∧(if y<x then y else x)<(if y>x then y else x)∧(if y>x then y else x)<n:=by
 split <;> split <;> omega
theorem zGA (lo:Int) (n:Nat):(upD lo n).length=n:=by unfold upD; simp
theorem zA9:lim=1048576:=rfl
theorem zPY {ρ:Env1}{j:Nat}{n:Int} (hj:ρ[j]?=some (some (.int n))) (h2:2≤n) (h7:n≤7) (S:zA0):∃ k S1,cBin oAdd (cBin oAdd (cLst (zA1 [(cCon (.int 0))])) (cApp zEB (zA1 [(cCon (.int 2)),(cVar j)]))) (cLst (zA1 [(cCon (.int 1))])) ρ S=.ok (.lst k) S1∧Ex S S1∧S.length≤k∧zA4 S1 k=some ((rowL n).map D.int):=by
 have e1:zEB [.int 2,.int n] (S++[O.lst [D.int 0]])=.ok (.lst (S++[O.lst [D.int 0]]).length) (S++[O.lst [D.int 0]]++[.lst (upD 2 (n - 2).toNat)]):=by
  unfold zEB
  dsimp only
  rw [if_pos (by omega)]
 generalize hA:S++[O.lst [D.int 0]]++[O.lst (upD 2 (n - 2).toNat)]=A at e1
 have a1:zA4 A S.length=some [.int 0]:=by rw [← hA]; exact zAd (zA2 _ _)
 have a2:zA4 A (S++[O.lst [D.int 0]]).length=some (upD 2 (n - 2).toNat):=by rw [← hA]; exact zA2 _ _
 have e2:=zEK a1 a2 (by rw [zGA,zA9]; simp; omega)
 generalize hB:A++[O.lst ([D.int 0]++upD 2 (n - 2).toNat)]=B at e2
 have b1:zA4 (B++[O.lst [D.int 1]]) A.length=some ([D.int 0]++upD 2 (n - 2).toNat):=by rw [← hB]; exact zAd (zA2 _ _)
 have e3:=zEK b1 (zA2 B [D.int 1]) (by rw [qB2,zGA,zA9]; simp; omega)
 refine ⟨(B++[O.lst [D.int 1]]).length,(B++[O.lst [D.int 1]])++[O.lst ([D.int 0]++upD 2 (n - 2).toNat++[D.int 1])],?_,?_,?_,?_⟩
 ·simp only [zO6,zO2,zGv,zFx,zO4,zAx,zSh,zJH,hj,e1,e2,e3]
 ·have:Ex S A:=by rw [← hA]; exact (zA8 _ _).trans (zA8 _ _)
  have:Ex S B:=by rw [← hB]; exact this.trans (zA8 _ _)
  exact (this.trans (zA8 _ _)).trans (zA8 _ _)
 ·rw [qB2,← hB,qB2,← hA]; simp; omega
 ·rw [zA2]
  congr 1
  unfold rowL upD
  simp
inductive zXu (c:CLL) (S:zA0) (i:Nat) (pl:Int):Prop
 | mk (x y:Int) (S1:zA0) (e:c "_law_ends" [.lst i,.int pl] S=.ok (.tup [.int x,.int y]) S1) (h0:0≤x) (h1:x<y) (h2:y<pl) (k:Kp (·=i) S S1) (st:StOk S1 i)
theorem zNw (h:zCJ cl) (ht:zC6 cl) (n:Nat) {S:zA0}{i:Nat} (hS:StOk S i) {pl:Int} (p2:2≤pl) (p7:pl≤7):zXu (cl (n+2)) S i pl:=by
 obtain ⟨k,S1,e1,x1,hk,l1⟩:=zPY (ρ:=[some (.lst i),some (.int pl),none,none,none]) (j:=1) rfl p2 p7 S
 have st1:=hS.ex x1
 have ki:k≠i:=by have:=hS.lt; omega
 obtain ⟨one,S2,e2,o0,o1,k2,n2,st2⟩:=zAw ht n st1 (m:=pl - 1) (by omega) (by omega)
 obtain ⟨c3,S3,e3,c0,c1,k3,n3,st3⟩:=zAw ht n st2 (m:=3) (by omega) (by omega)
 have l3:zA4 S3 k=some ((rowL pl).map D.int):=k3.lst (k2.lst l1 ki) ki
 have fin:∀ (other:Int) (S4:zA0),one<other→other<pl→zA4 S4 k=some ((rowL pl).map D.int)→∀ x y,x=(if rowJ pl other<rowJ pl one then rowJ pl other else rowJ pl one)→y=(if rowJ pl other>rowJ pl one then rowJ pl other else rowJ pl one) →
   (oIx (.lst k) (.int one) S4=.ok (.int (rowJ pl one)) S4∧oIx (.lst k) (.int other) S4=.ok (.int (rowJ pl other)) S4)∧0≤x∧x<y∧y<pl:=by
  intro other S4 h1 h2 l4 x y ex ey
  obtain ⟨m1,m2,m3⟩:=mima (zGJ p2 (i:=one) (by omega) (by omega)) (zGJ p2 (i:=other) (by omega) (by omega)) (zMt p2 (by omega) h1 h2)
  subst ex ey
  exact ⟨⟨by rw [zEX l4,zMs p2 (by omega) (by omega)],by rw [zEX l4,zMs p2 (by omega) (by omega)]⟩,m1,m2,m3⟩
 by_cases hc:c3=0
 ·obtain ⟨r,S4,e4,r0,r1,k4,n4,st4⟩:=zAw ht n st3 (m:=pl - 1 - one) (by omega) (by omega)
  obtain ⟨⟨f1,f2⟩,f3,f4,f5⟩:=fin (one+1+r) S4 (by omega) (by omega) (k4.lst l3 ki) _ _ rfl rfl
  refine ⟨_,_,S4,?_,f3,f4,f5,(x1.kp.trans k2).trans (k3.trans k4),st4⟩
  rw [show n+2=(n+1)+1 from rfl,h]
  refine zAc rfl ?_
  simp [zCA,zAu,↓e1,e2,e3,hc,e4,f1,f2]
 ·obtain ⟨⟨f1,f2⟩,f3,f4,f5⟩:=fin (one+1) S3 (by omega) (by omega) l3 _ _ rfl rfl
  refine ⟨_,_,S3,?_,f3,f4,f5,(x1.kp.trans k2).trans k3,st3⟩
  rw [show n+2=(n+1)+1 from rfl,h]
  refine zAc rfl ?_
  simp [zCA,zAu,↓e1,e2,e3,hc,f1,f2]
theorem _root_.L2.Kp.setNew {P:Nat→Prop}{S0 S:zA0}{l:Nat}{o:O} (h:Kp P S0 S) (hl:S0.length≤l):Kp P S0 (S.set l o) :=
 ⟨by rw [qO8]; exact h.le,fun j hj n=>by rw [qE8 (by omega)]; exact h.eq j hj n⟩
theorem StOk.setO {S:zA0}{i l:Nat}{o:O} (h:StOk S i) (hl:l≠i):StOk (S.set l o) i:=by
 obtain ⟨s,b,q,r⟩:=h
 exact ⟨s,b,zDR (by rw [qE8 hl]; exact zAE q),r⟩
theorem zEi {S:zA0}{i l:Nat}{o:O}{xs:List D} (h:zA4 S i=some xs) (hl:l≠i):zA4 (S.set l o) i=some xs:=zDR (by rw [qE8 hl]; exact zAE h)
@[simp] theorem zIP {lo:Int}{n i:Nat}{d:D}:(upD lo n)[i]?=some d↔i<n∧d=.int (lo+i):=by
 unfold upD
 rw [qB7]
 by_cases h:i<n
 ·rw [qI4 h]; simp [h,eq_comm]
 ·rw [qL5 (by simpa using h)]; simp [h]
structure Rows (S0 S:zA0) (i l:Nat) (sw pl:Int) (cs:List Ct):Prop where
 at':zA4 S l=some (cs.map Ct.d)
 ok:∀ c∈cs,c.ok sw pl
 st:StOk S i
 kp:Kp (·=i) S0 S
 ge:S0.length≤l
 ne:l≠i
theorem Rows.put {S0 S S1:zA0}{i l:Nat}{sw pl:Int}{cs ds:List Ct} (h:Rows S0 S i l sw pl cs) (k:Kp (·=i) S S1) (st:StOk S1 i) (hd:∀ c∈ds,c.ok sw pl):Rows S0 (S1.set l (.lst (ds.map Ct.d))) i l sw pl ds :=
 ⟨zAS (k.lst h.at' h.ne),hd,st.setO h.ne,(h.kp.trans k).setNew h.ge,h.ge,h.ne⟩
theorem Rows.go {S0 S S1:zA0}{i l:Nat}{sw pl:Int}{cs:List Ct} (h:Rows S0 S i l sw pl cs) (k:Kp (·=i) S S1) (st:StOk S1 i):Rows S0 S1 i l sw pl cs:=⟨k.lst h.at' h.ne,h.ok,st,h.kp.trans k,h.ge,h.ne⟩
noncomputable def nE (i:Nat) (ms mp mc sw pl:Int) (l:Nat) (a b c d e f:Option D):Env1:=[some (.lst i),some (.int ms),some (.int mp),some (.int mc),some (.int sw),some (.int pl),some (.lst l),a,b,c,d,e,f]
inductive NetP (S:zA0) (i:Nat) (ms mp mc:Int) (N:Net) (S1:zA0):Prop
 | mk (ok:N.ok ms mp mc) (k:Kp (·=i) S S1) (st:StOk S1 i)
inductive zSn (r:RS) (S:zA0) (i:Nat) (ms mp mc:Int):Prop
 | mk (N:Net) (S1:zA0) (e:r=.rt N.d S1) (p:NetP S i ms mp mc N S1)
inductive zVd (r:R D) (S:zA0) (i:Nat) (ms mp mc:Int):Prop
 | mk (N:Net) (S1:zA0) (e:r=.ok N.d S1) (ok:N.ok ms mp mc) (k:Kp (·=i) S S1) (st:StOk S1 i)
inductive zXs (S0:zA0) (i l:Nat) (ms mp mc sw pl:Int) (v7 v8 v9 v10:Option D) (m:Nat) (cs:List Ct) (j:Nat) (ρ:Env1) (S':zA0):Prop
 | mk (v12:Option D) (ds:List Ct) (e:ρ=nE i ms mp mc sw pl l v7 v8 v9 v10 (some (.lst m)) v12) (Rl:Rows S0 S' i l sw pl cs) (Rd:Rows S0 S' i m sw pl ds) (h:ds.length=j)
inductive zXr (S0:zA0) (i l:Nat) (ms mp mc sw pl:Int) (v7 v8 v9:Option D) (n0:Nat) (j:Nat) (ρ:Env1) (S':zA0):Prop
 | mk (v10:Option D) (ds:List Ct) (e:ρ=nE i ms mp mc sw pl l v7 v8 v9 v10 none none) (R:Rows S0 S' i l sw pl ds) (h:ds.length=n0+j)
inductive zXq (S0:zA0) (i l:Nat) (ms mp mc sw pl:Int) (kr t:Nat) (j:Nat) (ρ:Env1) (S':zA0):Prop
 | mk (v8 v9:Option D) (ds:List Ct) (e:ρ=nE i ms mp mc sw pl l (some (.lst kr)) v8 v9 none none none) (R:Rows S0 S' i l sw pl ds) (h:ds.length=j) (q1:zA4 S' kr=some ((rowL pl).map D.int)) (q2:zA4 S' t=some (((rowL pl).drop 1).map D.int))
theorem zP6 (h:zEr cl) (he:zCJ cl) (ht:zC6 cl) (n:Nat) {S:zA0}{i:Nat} (hS:StOk S i) {ms mp mc:Int} (hms:1≤ms∧ms≤4) (hmp:2≤mp∧mp≤7) (hmc:0≤mc∧mc≤16):zVd (cl (n+3) "_law_net" [.lst i,.int ms,.int mp,.int mc] S) S i ms mp mc:=by
 obtain ⟨r1,S1,e1,a1,b1,k1,n1,st1⟩:=zAw ht (n+1) hS (m:=ms) (by omega) (by omega)
 obtain ⟨r2,S2,e2,a2,b2,k2,n2,st2⟩:=zAw ht (n+1) st1 (m:=mp - 1) (by omega) (by omega)
 generalize hsw:1+r1=sw at *
 generalize hpl:2+r2=pl at *
 have w1:1≤sw:=by omega
 have w2:sw≤ms:=by omega
 have p1:2≤pl:=by omega
 have p2:pl≤mp:=by omega
 have kS2:Kp (·=i) S S2:=k1.trans k2
 have hl:S.length≤S2.length:=kS2.le
 have li:S2.length≠i:=by have:=hS.lt; omega
 obtain ⟨kr,S4,e4,x4,hk4,l4⟩:=zPY (ρ:=nE i ms mp mc sw pl S2.length none none none none none none) (j:=5) rfl p1 (by omega) (S2++[.lst []])
 have kri:kr≠i:=by have:=hS.lt; simp at hk4; omega
 have krl:kr≠S2.length:=by simp at hk4; omega
 have R4:Rows S S4 i S2.length sw pl []:=⟨x4.lst (zA2 _ _) (fun z=>z),(fun c hc=>by cases hc),(st2.ex (zA8 _ _)).ex x4,kS2.trans ((zA8 S2 [.lst []]).trans x4).kp,hl,li⟩
 have fin:∀ (cs:List Ct) (S5:zA0) (v7 v8 v9 v10:Option D),Rows S S5 i S2.length sw pl cs→(cs.length:Int)≤mc →
   zSn ((sSeq (sAsg (cLst (zA1 [])) (gN 11)) (sSeq (sFor (iSeq (cVar 6)) (gN 12) (zCw (cl (n+2)))) (sSeq (sRet (cTup (zA1 [(cVar 4),(cVar 5),(cApp zBa (zA1 [(cVar 11)]))]))) zA5))) (nE i ms mp mc sw pl S2.length v7 v8 v9 v10 none none) S5) S i ms mp mc:=by
  intro cs S5 v7 v8 v9 v10 R5 hc
  have hm:S.length≤S5.length:=R5.kp.le
  have mi:S5.length≠i:=by have:=hS.lt; omega
  have ml:S2.length≠S5.length:=by have:=zC9 R5.at'; omega
  have Rm:Rows S (S5++[.lst []]) i S2.length sw pl cs:=R5.go (zA8 _ _).kp (R5.st.ex (zA8 _ _))
  obtain ⟨ρ',S6,e6,v12,ds,hρ,Rl,Rd,hd⟩:=zAW (w:=[(S2.length,cs.map Ct.d)]) (g:=gN 12) (b:=zCw (cl (n+2))) (items:=cs.map Ct.d)
   (zXs S i S2.length ms mp mc sw pl v7 v8 v9 v10 S5.length cs)
   (ρ:=nE i ms mp mc sw pl S2.length v7 v8 v9 v10 (some (.lst S5.length)) none) (S:=S5++[.lst []])
   (fun j ρ S' hp=>by obtain ⟨_,_,_,q,_⟩:=hp; exact zBD q.at')
   ⟨none,[],rfl,Rm,⟨zA2 _ _,(fun c hc=>by cases hc),Rm.st,Rm.kp,hm,mi⟩,rfl⟩
   (fun j d ρ S' hd hp=>by
    obtain ⟨v12,ds,rfl,Rl,Rd,hj⟩:=hp
    rw [qB7] at hd
    obtain ⟨c,hc1,rfl⟩:=qA4.mp hd
    have cok:=R5.ok c (qB5 hc1)
    have jl:j<cs.length:=(qA1.mp hc1).1
    obtain ⟨r,S7,e7,r0,r9,k7,n7,st7⟩:=zAw ht (n+1) Rl.st (m:=((ds.map Ct.d).length:Int)+1) (by omega) (by rw [qA2]; omega)
    rw [qA2] at e7 r9
    have hins:∀ c'∈ds.take r.toNat++c::ds.drop r.toNat,c'.ok sw pl:=fun c' hc'=>by
     rcases qB3.mp hc' with q | q
     ·exact Rd.ok c' (qH1 q)
     ·rcases qB9.mp q with q | q
      ·subst q; exact cok
      ·exact Rd.ok c' (qG9 q)
    have Rd7:=Rd.put k7 st7 hins
    have Rl7:Rows S (S7.set S5.length (.lst ((ds.take r.toNat++c::ds.drop r.toNat).map Ct.d))) i S2.length sw pl cs:=⟨zEi (k7.lst Rl.at' Rl.ne) (Ne.symm ml),Rl.ok,st7.setO Rd.ne,(Rl.kp.trans k7).setNew Rd.ge,Rl.ge,Rl.ne⟩
    refine ⟨_,_,rfl,_,_,.inl ?_,⟨some c.d,ds.take r.toNat++c::ds.drop r.toNat,rfl,Rl7,Rd7,by simp; omega⟩⟩
    have q1:=zB5 Rd.at'
    have q2:=zKt Rd.at'
    have q3:=zDd (k7.lst Rd.at' Rd.ne) zEn [.int r,c.d]
    have q4:ds.length<1000∧0≤r∧r.toNat≤ds.length:=by omega
    simp [nE,zCw,q1,q2,e7,q3,q4])
  subst hρ
  refine ⟨⟨sw,pl,ds⟩,S6,?_,⟨⟨w1,w2,p1,p2,by show (ds.length:Int)≤mc; rw [hd,qA2]; exact hc,Rd.ok⟩,Rd.kp,Rd.st⟩⟩
  have q5:zA4 (S5++[O.lst []]) S2.length=some (cs.map Ct.d):=Rm.at'
  have q6:=zBM Rd.at'
  unfold nE at e6 ⊢
  simp [q5,e6,q6,Net.d]
 have mid:∀ (cs:List Ct) (S5:zA0) (v7 v8 v9:Option D),Rows S S5 i S2.length sw pl cs→(cs.length:Int)≤mc →
   zSn ((sSeq (sFor (zBE (zA1 [(cApp (cl (n+2) "_law_take") (zA1 [(cVar 0),(cBin oAdd (cBin (oInt fun i j=>i - j) (cVar 3) (cApp fLen (zA1 [(cVar 6)]))) (cCon (.int 1)))]))])) (gN 10) (zDe (cl (n+2))))
    (sSeq (sAsg (cLst (zA1 [])) (gN 11)) (sSeq (sFor (iSeq (cVar 6)) (gN 12) (zCw (cl (n+2)))) (sSeq (sRet (cTup (zA1 [(cVar 4),(cVar 5),(cApp zBa (zA1 [(cVar 11)]))]))) zA5)))) (nE i ms mp mc sw pl S2.length v7 v8 v9 none none none) S5) S i ms mp mc:=by
  intro cs S5 v7 v8 v9 R5 hc
  obtain ⟨r,S6,e6,r0,r9,k6,n6,st6⟩:=zAw ht (n+1) R5.st (m:=mc - ((cs.map Ct.d).length:Int)+1) (by rw [qA2]; omega) (by omega)
  rw [qA2] at e6 r9
  have R6:=R5.go k6 st6
  obtain ⟨ρ',S7,e7,v10,ds,hρ,Rd,hd⟩:=zAW (w:=[]) (g:=gN 10) (b:=zDe (cl (n+2))) (items:=upD 0 r.toNat)
   (zXr S i S2.length ms mp mc sw pl v7 v8 v9 cs.length)
   (fun j ρ S' hp=>zAm _) ⟨none,cs,rfl,R6,rfl⟩
   (fun j d ρ S' hd hp=>by
    obtain ⟨v10,ds,rfl,R,hj⟩:=hp
    rw [zIP] at hd
    obtain ⟨hjr,rfl⟩:=hd
    obtain ⟨x,y,S8,e8,x0,xy,yp,k8,st8⟩:=zNw he ht n R.st p1 (by omega)
    obtain ⟨r3,S9,e9,a3,b3,k9,n9,st9⟩:=zAw ht (n+1) st8 (m:=sw) (by omega) (by omega)
    obtain ⟨r4,S10,e10,a4,b4,k10,n10,st10⟩:=zAw ht (n+1) st9 (m:=2) (by omega) (by omega)
    have kk:=(k8.trans k9).trans k10
    have hok:∀ c∈ds++[⟨x,y,r3,r4⟩],Ct.ok sw pl c:=fun c hc=>by
     rcases qB3.mp hc with q | q
     ·exact R.ok c q
     ·simp at q; subst q; exact ⟨x0,xy,yp,a3,b3,a4,b4⟩
    have Rd:=R.put kk st10 hok
    refine ⟨_,_,rfl,_,_,.inl ?_,⟨some (.int (0+(j:Int))),ds++[⟨x,y,r3,r4⟩],rfl,Rd,by simp; omega⟩⟩
    have q1:=zB5 R.at'
    have q2:=zDd (kk.lst R.at' R.ne) zAy [Ct.d ⟨x,y,r3,r4⟩]
    have q3:ds.length<lim:=by rw [zA9]; omega
    have q4:(2:Nat)+2≤lim:=by decide
    simp [nE,zDe,q1,e8,e9,e10,Ct.d,q4] at q2 ⊢
    simp [q2,q3])
  subst hρ
  obtain ⟨N,S11,e11,r11⟩:=fin ds S7 v7 v8 v9 v10 Rd (by rw [hd,zGA]; omega)
  refine ⟨N,S11,?_,r11⟩
  have q5:=zKt R5.at'
  rw [qA2] at q5
  have q6:-4611686018427387904≤r∧r<4611686018427387904:=by omega
  rw [zGH,zMr]
  unfold nE at e7 e11 ⊢
  simp [q5,e6,q6,e7,-zGH,e11]
 obtain ⟨c5,S5,e5,a5,b5,k5,n5,st5⟩:=zAw ht (n+1) R4.st (m:=2) (by omega) (by omega)
 have R5:=R4.go k5 st5
 have l5:zA4 S5 kr=some ((rowL pl).map D.int):=k5.lst l4 kri
 have main:zSn (zCz (cl (n+2)) [some (.lst i),some (.int ms),some (.int mp),some (.int mc),none,none,none,none,none,none,none,none,none] S) S i ms mp mc:=by
  unfold nE at e4
  by_cases hc:c5=0∧pl - 1≤mc
  ·have hcut:cutD ((rowL pl).map D.int) (some 1) none=((rowL pl).drop 1).map D.int:=by
    unfold cutD
    have hs:HT.sIx ((rowL pl).map D.int).length 0 (some 1)=1:=by
     have:=HT.sIx_nat ((rowL pl).map D.int).length 0 1
     have hl:=zGI p1
     rw [qA2] at this ⊢
     rw [show ((1:Nat):Int)=1 from rfl] at this
     rw [this]; omega
    rw [hs,HT.sIx_none,List.map_drop,qF1 (by simp)]
   have x6:=zA8 S5 [O.lst (((rowL pl).drop 1).map D.int)]
   have t6:zA4 (S5++[O.lst (((rowL pl).drop 1).map D.int)]) S5.length=some (((rowL pl).drop 1).map D.int):=zA2 _ _
   have l6:=x6.lst l5 (fun z=>z)
   have ti:S5.length≠i:=by have:=st5.lt; omega
   have tl:S5.length≠S2.length:=by have:=zC9 R5.at'; omega
   have R6:=R5.go x6.kp (st5.ex x6)
   obtain ⟨ρ',S7,e7,v8,v9,ds,hρ,Rd,hd,_⟩:=zAW (w:=[(kr,(rowL pl).map D.int),(S5.length,((rowL pl).drop 1).map D.int)]) (g:=gT [gN 8,gN 9]) (b:=zEl (cl (n+2))) (items:=zipD ((rowL pl).map D.int) (((rowL pl).drop 1).map D.int))
    (zXq S i S2.length ms mp mc sw pl kr S5.length)
    (ρ:=nE i ms mp mc sw pl S2.length (some (.lst kr)) none none none none none) (S:=S5++[O.lst (((rowL pl).drop 1).map D.int)])
    (fun j ρ S' hp=>by obtain ⟨_,_,_,_,_,_,q1,q2⟩:=hp; exact zRr q1 q2)
    ⟨none,none,[],rfl,R6,rfl,l6,t6⟩
    (fun j d ρ S' hd hp=>by
     obtain ⟨v8,v9,ds,rfl,R,hj,q1,q2⟩:=hp
     have hz:∃ x y,(rowL pl)[j]?=some x∧(rowL pl)[1+j]?=some y∧d=.tup [.int x,.int y]:=by
      unfold zipD at hd
      rw [qB7] at hd
      obtain ⟨⟨x,y⟩,hxy,rfl⟩:=qA4.mp hd
      rw [qF4,qB7,qB7,List.getElem?_drop] at hxy
      obtain ⟨hx,hy⟩:=hxy
      obtain ⟨x',hx',rfl⟩:=qA4.mp hx
      obtain ⟨y',hy',rfl⟩:=qA4.mp hy
      exact ⟨x',y',hx',hy',rfl⟩
     obtain ⟨x,y,hx,hy,rfl⟩:=hz
     have hjl:1+j<(rowL pl).length:=(qA1.mp hy).1
     rw [zGI p1] at hjl
     rw [zK7 p1 (by omega)] at hx hy
     cases hx
     cases hy
     obtain ⟨r3,S9,e9,a3,b3,k9,n9,st9⟩:=zAw ht (n+1) R.st (m:=sw) (by omega) (by omega)
     obtain ⟨r4,S10,e10,a4,b4,k10,n10,st10⟩:=zAw ht (n+1) st9 (m:=2) (by omega) (by omega)
     have kk:=k9.trans k10
     obtain ⟨m1,m2,m3⟩:=mima (n:=pl) (zGJ p1 (i:=(j:Int)) (by omega) (by omega)) (zGJ p1 (i:=((1+j:Nat):Int)) (by omega) (by omega)) (zMt p1 (by omega) (by omega) (by omega))
     generalize hX:(if rowJ pl ((1+j:Nat):Int)<rowJ pl (j:Int) then rowJ pl ((1+j:Nat):Int) else rowJ pl (j:Int))=X at m1 m2
     generalize hY:(if rowJ pl ((1+j:Nat):Int)>rowJ pl (j:Int) then rowJ pl ((1+j:Nat):Int) else rowJ pl (j:Int))=Y at m2 m3
     have hok:∀ c∈ds++[⟨X,Y,r3,r4⟩],Ct.ok sw pl c:=fun c hc=>by
      rcases qB3.mp hc with q | q
      ·exact R.ok c q
      ·simp at q; subst q; exact ⟨m1,m2,m3,a3,b3,a4,b4⟩
     have Rd:=R.put kk st10 hok
     refine ⟨_,_,rfl,_,_,.inl ?_,⟨some (.int (rowJ pl (j:Int))),some (.int (rowJ pl ((1+j:Nat):Int))),ds++[⟨X,Y,r3,r4⟩],rfl,Rd,by simp; omega,zEi (kk.lst q1 kri) krl.symm,zEi (kk.lst q2 ti) tl.symm⟩⟩
     have q7:=zB5 R.at'
     have q8:=zDd (kk.lst R.at' R.ne) zAy [Ct.d ⟨X,Y,r3,r4⟩]
     have q9:ds.length<lim:=by rw [zA9]; omega
     simp [nE,zEl,q7,e9,e10,Ct.d,-Int.natCast_add,hX,hY] at q8 ⊢
     simp [q8,q9])
   have hdl:ds.length=pl.toNat - 1:=by
    rw [hd]
    unfold zipD
    rw [qA2,qP0,qA2,qA2,qI7,zGI p1]
    exact Nat.min_eq_right (Nat.sub_le _ _)
   subst hρ
   obtain ⟨N,S11,e11,r11⟩:=mid ds S7 (some (.lst kr)) v8 v9 Rd (by omega)
   unfold nE at e7 e11
   refine ⟨N,S11,?_,r11⟩
   have q3:=zRu l5 (some 1) none
   rw [hcut] at q3
   unfold zCz
   generalize hT:((rowL pl).drop 1).map D.int=T at q3 l6 t6 e7
   generalize hT2:(rowL pl).map D.int=T2 at q3 l6 t6 e7
   simp [e1,e2,hsw,hpl,↓e4,e5,hc.1,hc.2,q3,l6,t6,e7,↓e11]
  ·obtain ⟨N,S11,e11,r11⟩:=mid [] S5 (some (.lst kr)) none none R5 (by show (0:Int)≤mc; omega)
   unfold nE at e11
   refine ⟨N,S11,?_,r11⟩
   unfold zCz
   by_cases h0:c5=0
   ·have h1:¬ (pl - 1≤mc):=fun z=>hc ⟨h0,z⟩
    simp [e1,e2,hsw,hpl,↓e4,e5,h0,h1,↓e11]
   ·simp [e1,e2,hsw,hpl,↓e4,e5,h0,↓e11]
 obtain ⟨N,S12,e12,a12,b12,c12⟩:=main
 exact ⟨N,S12,by rw [show n+3=(n+2)+1 from rfl,h]; exact zAc rfl e12,a12,b12,c12⟩
end My
namespace Mt
def zFE (es:List (Int × Int)):Prop:=∀ C:Int→Prop,C 0→(∀ e∈es,(C e.1↔C e.2))→C 1
structure zHh (es:List (Int × Int)) (s:Int) (F:Int→Prop):Prop where
 start:F s
 closed:∀ e∈es,(F e.1↔F e.2)
 least:∀ C:Int→Prop,C s→(∀ e∈es,(C e.1↔C e.2))→∀ x,F x→C x
theorem zHh.joined {es:List (Int × Int)}{F:Int→Prop} (h:zHh es 0 F):F 1↔zFE es:=⟨fun f C c0 cc=>h.least C c0 cc 1 f,fun j=>j F h.start h.closed⟩
theorem zNr {α:Type}{p q:α→Bool}{l:List α} (h:∀ x,p x=true→q x=true) {a:α} (ha:a∈l) (h1:q a=true) (h2:p a=false):(l.filter p).length<(l.filter q).length:=by
 induction l with
 | nil=>cases ha
 | cons x r ih =>
  have le:(r.filter p).length≤(r.filter q).length:=by
   clear ih ha
   induction r with
   | nil=>simp
   | cons y r ih =>
    rw [qF2,qF2]
    cases hp:p y with
    | true=>rw [h y hp]; simpa using ih
    | false =>
     cases q y with
     | true=>simp; omega
     | false=>simpa using ih
  rw [qF2,qF2]
  rcases qB9.mp ha with e | e
  ·subst e
   rw [h1,h2]; simp; omega
  ·have:=ih e
   cases hp:p x with
   | true=>rw [h x hp]; simpa using this
   | false =>
    cases q x with
    | true=>simp; omega
    | false=>simpa using this
def Z (ms:List Int) (x:Int):Prop:=0≤x∧ms[x.toNat]?=some 0
end Mt
namespace My
open PySem L2 Mt
variable {cl:Nat→CLL}
noncomputable def zC7 (st:List Int):D:=.tup (st.map D.int)
theorem zPQ {l:List Int}{k:Int} (h0:0≤k) (h1:k<l.length):atI (l.map D.int) k=some (.int (l.getD k.toNat 0)):=by
 have e:l[k.toNat]?=some (l.getD k.toNat 0):=by rw [qT6,qA6 (by omega)]; rfl
 have q:=zCH (xs:=l.map D.int) (j:=k.toNat) (v:=.int (l.getD k.toNat 0)) (by rw [qB7,e]; rfl)
 rw [show ((k.toNat:Nat):Int)=k by omega] at q
 exact q
noncomputable def zAY {α:Type} (l:List α):List (Nat × α):=(List.range l.length).zip l
theorem zAC {α:Type} (e:α→D) (l:List α):zBI (l.map e)=(zAY l).map fun q=>.tup [.int (q.1:Nat),e q.2]:=by
 unfold zBI zAY
 rw [qA2,List.zip_map_right,qF7]
 rfl
theorem zDZ {α:Type}{l:List α}{q:Nat × α} (h:q∈zAY l):l[q.1]?=some q.2:=by
 unfold zAY at h
 obtain ⟨i,hi⟩:=qM3 h
 rw [qF4] at hi
 obtain ⟨h1,h2⟩:=hi
 have:=qA1.mp h1
 obtain ⟨h3,h4⟩:=this
 simp at h4
 rw [← h4]; exact h2
theorem zNv {α:Type} (l:List α):(zAY l).map (·.2)=l:=by
 unfold zAY
 exact qO2 (by simp)
theorem zMV:(1000:Nat)<lim:=by decide
theorem zBB {α:Type} (l:List α):(zAY l).length=l.length:=by unfold zAY; simp
noncomputable def ends (cs:List Ct):List (Int × Int):=cs.map fun c=>(c.a,c.b)
noncomputable def cntF (B:Nat) (fs:List Int):Nat:=((List.range B).filter fun (v:Nat)=>decide ((v:Int)∈fs)).length
theorem zJw (B:Nat) (fs:List Int):cntF B fs≤B:=by
 unfold cntF
 have:=qD8 (fun (v:Nat)=>decide ((v:Int)∈fs)) (List.range B)
 simpa using this
theorem zNO {B:Nat}{fs gs:List Int} (h:∀ x,x∈fs→x∈gs) {x:Int} (hx:x∈gs) (hn:x∉fs) (h0:0≤x) (hB:x<B):cntF B fs<cntF B gs:=by
 unfold cntF
 refine zNr (a:=x.toNat) (fun v hv=>?_) ?_ ?_ ?_
 ·simp only [decide_eq_true_eq] at hv ⊢; exact h _ hv
 ·rw [qJ7]; omega
 ·simp only [decide_eq_true_eq]; rw [show ((x.toNat:Nat):Int)=x by omega]; exact hx
 ·simp only [decide_eq_false_iff_not]; rw [show ((x.toNat:Nat):Int)=x by omega]; exact hn
theorem zHf (fs:List Int) (a:Int):(addK fs a).length≤fs.length+1:=by unfold addK; split <;> simp
noncomputable def pE (s:Int) (k l:Nat) (g:Bool) (v:Option D):Env1:=[some (.int s),some (.lst k),some (.dct l),some (.bl g),v]
def Clo (cs:List Ct) (s:Int) (fs:List Int):Prop:=∀ C:Int→Prop,C s→(∀ e∈ends cs,(C e.1↔C e.2))→∀ x∈fs,C x
inductive PlW (cs:List Ct) (s:Int) (k:Nat) (S:zA0) (m:Nat) (ρ:Env1) (S':zA0):Prop
 | mk (fs:List Int) (g:Bool) (v4:Option D) (e:ρ=pE s k S.length g v4) (kp:Kp (·=S.length) (S++[.dk (dkOf [s])]) S') (hf:S'[S.length]?=some (.dk (dkOf fs))) (r1:s∈fs) (r2:Clo cs s fs) (r3:g=false→∀ e∈ends cs,(e.1∈fs↔e.2∈fs)) (r4:g=true→m+cntF 7 fs=9) (r5:fs.length+200*m≤2000) (nd:fs.Nodup)
inductive PlQ (cs:List Ct) (s:Int) (k:Nat) (S:zA0) (ρ:Env1) (S':zA0):Prop
 | mk (fs:List Int) (v4:Option D) (e:ρ=pE s k S.length false v4) (kp:Kp (·=S.length) (S++[.dk (dkOf [s])]) S') (hf:S'[S.length]?=some (.dk (dkOf fs))) (r1:s∈fs) (r2:Clo cs s fs) (r3:∀ e∈ends cs,(e.1∈fs↔e.2∈fs)) (nd:fs.Nodup)
inductive PlL (cs:List Ct) (s:Int) (k:Nat) (S:zA0) (fs:List Int) (j:Nat) (ρ:Env1) (S2:zA0):Prop
 | mk (fs2:List Int) (g2:Bool) (v4:Option D) (e:ρ=pE s k S.length g2 v4) (kp:Kp (·=S.length) (S++[.dk (dkOf [s])]) S2) (hf:S2[S.length]?=some (.dk (dkOf fs2))) (q1:∀ x∈fs,x∈fs2) (q2:Clo cs s fs2)
  (q3:g2=false→fs2=fs∧∀ i c,i<j→cs[i]?=some c→(c.a∈fs↔c.b∈fs)) (q4:g2=true→cntF 7 fs<cntF 7 fs2) (q5:fs2.length≤fs.length+2*j) (nd:fs2.Nodup)
theorem zOc {fs:List Int} (h:fs.Nodup) (a:Int):(addK fs a).Nodup:=by
 unfold addK
 split
 ·exact h
 ·rename_i ha
  exact qF5.mpr ⟨h,by simp,fun x hx y hy e=>ha (by rw [qA9] at hy; subst hy; subst e; exact hx)⟩
theorem zMw (h:zAU cl) (n:Nat) (cs:List Ct) (s:Int) (hs:0≤s∧s<7) (hc:cs.length≤100) (hb:∀ c∈cs,(0≤c.a∧c.a<7)∧0≤c.b∧c.b<7) {S:zA0}{k:Nat} (hk:zA4 S k=some (cs.map Ct.d)) :
  ∃ m S1 fs,cl (n+1) "places_from" [.int s,.lst k] S=.ok (.dct m) S1∧Ex S S1∧S1[m]?=some (.dk (dkOf fs))∧zHh (ends cs) s (·∈fs)∧fs.Nodup:=by
 have km:k≠S.length:=by have:=zC9 hk; omega
 obtain ⟨ρ',S',e,fs,v4,rfl,kp,hfs,r1,r2,r3,nd⟩:=zGz (t:=cTru (cVar 3)) (b:=zBn (cl n)) (PlW cs s k S) (PlQ cs s k S)
  (fun m ρ S' hp=>by
   obtain ⟨fs,g,v4,rfl,kp,hfs,r1,r2,r3,r4,r5,nd⟩:=hp
   cases g with
   | false=>exact .inl ⟨S',by simp [pE],⟨fs,v4,rfl,kp,hfs,r1,r2,r3 rfl,nd⟩⟩
   | true =>
    refine .inr ⟨S',by simp [pE],?_⟩
    have hl:zA4 S' k=some (cs.map Ct.d):=kp.lst (zAd hk) km
    obtain ⟨ρ2,S2,e2,fs2,g2,v4',rfl,kp2,hfs2,q1,q2,q3,q4,q5,nd2⟩:=zAW (w:=[(k,cs.map Ct.d)]) (g:=gN 4) (b:=zBm (cl n)) (items:=cs.map Ct.d)
     (PlL cs s k S fs) (ρ:=pE s k S.length false v4) (S:=S')
     (fun j ρ S2 hp=>by
      obtain ⟨_,_,_,_,kp⟩:=hp
      exact zBD (kp.lst (zAd hk) km))
     ⟨fs,false,v4,rfl,kp,hfs,fun x hx=>hx,r2,fun _=>⟨rfl,fun i c hi=>by omega⟩,(fun z=>by cases z),by omega,nd⟩
     (fun j d ρ S2 hd hp=>by
      obtain ⟨fs2,g2,v4,rfl,kp2,hf2,q1,q2,q3,q4,q5,nd2⟩:=hp
      rw [qB7] at hd
      obtain ⟨c,hcj,rfl⟩:=qA4.mp hd
      have hm:c∈cs:=qB5 hcj
      have hj:j<cs.length:=(qA1.mp hcj).1
      obtain ⟨ba,bb⟩:=hb c hm
      have he:(c.a,c.b)∈ends cs:=qC8.mpr ⟨c,hm,rfl⟩
      refine ⟨_,_,rfl,?_⟩
      have i1:=zMO hf2 false c.a
      have i2:=zMO hf2 false c.b
      have hlim:fs2.length+2<lim:=by have:=zMV; rw [zA9]; omega
      by_cases hne:(c.a∈fs2↔c.b∈fs2)
      ·refine ⟨_,S2,.inl ?_,⟨fs2,g2,some c.d,rfl,kp2,hf2,q1,q2,fun hg=>⟨(q3 hg).1,fun i c' hi hc'=>?_⟩,q4,by omega,nd2⟩⟩
       ·have:(decide (c.a∈fs2) != decide (c.b∈fs2))=false:=by simp [hne]
        simp [pE,zBm,Ct.d,i1,i2,this]
       ·by_cases hij:i=j
        ·subst hij; rw [hcj] at hc'; cases hc'
         rw [(q3 hg).1] at hne; exact hne
        ·exact (q3 hg).2 i c' (by omega) hc'
      ·have s1:=zML hf2 (by omega) c.a
       have f3:(S2.set S.length (.dk (dkOf (addK fs2 c.a))))[S.length]?=some (.dk (dkOf (addK fs2 c.a))):=qD7 (qA1.mp hf2).1
       have s2:=zML f3 (by have:=zHf fs2 c.a; omega) c.b
       have f4:((S2.set S.length (.dk (dkOf (addK fs2 c.a)))).set S.length (.dk (dkOf (addK (addK fs2 c.a) c.b))))[S.length]?=some (.dk (dkOf (addK (addK fs2 c.a) c.b))):=qD7 (qA1.mp f3).1
       have mem:∀ x,x∈addK (addK fs2 c.a) c.b↔x∈fs2∨x=c.a∨x=c.b:=fun x=>by rw [zKl,zKl,or_assoc]
       refine ⟨_,_,.inl ?_,⟨addK (addK fs2 c.a) c.b,true,some c.d,rfl,(kp2.trans (zBx _ _)).trans (zBx _ _),f4,fun x hx=>(mem x).mpr (.inl (q1 x hx)),fun C c0 cc x hx=>?_,(fun z=>by cases z),fun _=>?_,by have:=zHf fs2 c.a; have:=zHf (addK fs2 c.a) c.b; omega,zOc (zOc nd2 _) _⟩⟩
       ·have:(decide (c.a∈fs2) != decide (c.b∈fs2))=true:=by
         by_cases h1:c.a∈fs2 <;> by_cases h2:c.b∈fs2 <;> simp [h1,h2] at hne ⊢
        simp [pE,zBm,Ct.d,i1,i2,this,s1,s2]
       ·have ca:=q2 C c0 cc
        have hcc:=cc _ he
        dsimp only at hcc
        have one:C c.a∧C c.b:=by
         by_cases h1:c.a∈fs2
         ·exact ⟨ca _ h1,hcc.mp (ca _ h1)⟩
         ·by_cases h2:c.b∈fs2
          ·exact ⟨hcc.mpr (ca _ h2),ca _ h2⟩
          ·exact absurd (iff_of_false h1 h2) hne
        rcases (mem x).mp hx with z | z | z
        ·exact ca x z
        ·subst z; exact one.1
        ·subst z; exact one.2
       ·have lt:cntF 7 fs2<cntF 7 (addK (addK fs2 c.a) c.b):=by
         by_cases h1:c.a∈fs2
         ·have h2:c.b∉fs2:=fun z=>hne (iff_of_true h1 z)
          exact zNO (fun x hx=>(mem x).mpr (.inl hx)) ((mem c.b).mpr (.inr (.inr rfl))) h2 bb.1 bb.2
         ·exact zNO (fun x hx=>(mem x).mpr (.inl hx)) ((mem c.a).mpr (.inr (.inl rfl))) h1 ba.1 ba.2
        cases g2 with
        | true=>have:=q4 rfl; omega
        | false=>rw [(q3 rfl).1] at lt ⊢; exact lt)
    have c0:=zJw 7 fs
    have c1:=r4 rfl
    rw [qA2] at q5
    have step:zBn (cl n) (pE s k S.length true v4) S'=.nx (pE s k S.length g2 v4') S2:=by unfold pE at e2 ⊢; simp [zBn,hl,e2]
    cases g2 with
    | true =>
     have c2:=zJw 7 fs2
     have c3:=q4 rfl
     exact ⟨_,S2,.inl step,9 - cntF 7 fs2,by omega,⟨fs2,true,v4',rfl,kp2,hfs2,q1 s r1,q2,(fun z=>by cases z),fun _=>by omega,by omega,nd2⟩⟩
    | false =>
     refine ⟨_,S2,.inl step,0,by omega,⟨fs2,false,v4',rfl,kp2,hfs2,q1 s r1,q2,fun hg e he=>?_,(fun z=>by cases z),by omega,nd2⟩⟩
     obtain ⟨c,hc1,rfl⟩:=qC8.mp he
     obtain ⟨i,hi⟩:=qM3 hc1
     rw [(q3 hg).1]
     exact (q3 hg).2 i c (by rw [qA2]; exact (qA1.mp hi).1) hi)
  zIO (9 - cntF 7 [s]) (pE s k S.length true none) (S++[.dk (dkOf [s])]) (qH6 (Nat.sub_le _ _) (by decide))
   ⟨[s],true,none,rfl,Kp.refl _ _,by rw [qA0 (qB0 _),qK1]; rfl,by simp,fun C c0 _ x hx=>(by simp at hx; subst hx; exact c0),(fun z=>by cases z),fun _=>(by have:=zJw 7 [s]; omega),by simp; omega,by simp⟩
 refine ⟨S.length,S',fs,?_,⟨?_,fun j hj _=>?_⟩,hfs,⟨r1,r3,fun C c0 cc x hx=>r2 C c0 cc x hx⟩,nd⟩
 ·rw [h]
  refine zAc rfl ?_
  have e0:(S++[O.dk [((Sum.inl s:Key),D.bl true)]])=S++[O.dk (dkOf [s])]:=rfl
  unfold pE at e
  simp [zBK,zAu,zCN,e0,e]
 ·have:=kp.le; simp at this; omega
 ·rw [kp.eq j (by simp; omega) (by omega),qA7 hj]
theorem zIX (h:zAU cl) (n:Nat) (cs:List Ct) (s:Int) (hs:0≤s∧s<7) (hc:cs.length≤100) (hb:∀ c∈cs,(0≤c.a∧c.a<7)∧0≤c.b∧c.b<7) {S:zA0}{k:Nat} (hk:zA4 S k=some (cs.map Ct.d)) :
  ∃ m S1 fs,cl (n+1) "places_from" [.int s,.lst k] S=.ok (.dct m) S1∧Ex S S1∧S1[m]?=some (.dk (dkOf fs))∧zHh (ends cs) s (·∈fs):=by
 obtain ⟨m,S1,fs,a,b,c,d,_⟩:=zMw h n cs s hs hc hb hk
 exact ⟨m,S1,fs,a,b,c,d⟩
noncomputable def jB (es:List (Int × Int)):Bool:=@decide (zFE es) (Classical.propDecidable _)
theorem zKo {es:List (Int × Int)}:jB es=true↔zFE es:=by
 exact @decide_eq_true_iff _ (Classical.propDecidable _)
theorem zX2 {es:List (Int × Int)}{b:Bool} (h:b=true↔zFE es):b=jB es:=by
 cases b with
 | true=>exact (zKo.mpr (h.mp rfl)).symm
 | false =>
  cases q:jB es with
  | false=>rfl
  | true=>exact absurd (h.mpr (zKo.mp q)) qB1
def In7 (cs:List Ct):Prop:=∀ c∈cs,(0≤c.a∧c.a<7)∧0≤c.b∧c.b<7
theorem zL9 (h:zHi cl) (hp:zAU cl) (n:Nat) (cs:List Ct) (hc:cs.length≤100) (hb:In7 cs) {S:zA0}{k:Nat} (hk:zA4 S k=some (cs.map Ct.d)):Spc (cl (n+2) "joins" [.lst k] S) ((.bl (jB (ends cs)))) S:=by
 obtain ⟨m,S1,fs,e,x,hf,r⟩:=zIX hp n cs 0 (by decide) hc hb hk
 refine ⟨S1,?_,x⟩
 rw [show n+2=(n+1)+1 from rfl,h]
 refine zAc rfl ?_
 have q:=zMO hf false 1
 have e2:decide ((1:Int)∈fs)=jB (ends cs):=zX2 (by rw [decide_eq_true_eq]; exact r.joined)
 simp [zHc,zAu,e,q,e2]
structure zXp (N:Net) (st:List Int):Prop where
 len:(st.length:Int)=N.sw
theorem Net.ok.ks {ms mp mc:Int}{N:Net} (h:N.ok ms mp mc) {st:List Int} (hs:zXp N st):∀ c∈N.cs,0≤c.k∧c.k<st.length:=fun c hc=>by
 obtain ⟨_,_,_,h4,h5,_,_⟩:=h.c2 c hc
 rw [hs.len]; exact ⟨h4,h5⟩
theorem Net.ok.in7 {ms mp mc:Int}{N:Net} (h:N.ok ms mp mc) (hm:mp≤7):In7 N.cs:=fun c hc=>by
 obtain ⟨h1,h2,h3,_⟩:=h.c2 c hc
 have:=h.p2
 omega
@[simp] theorem zVG (w x y z:D):cutD [w,x,y,z] none (some 2)=[w,x]:=rfl
noncomputable def sett:Nat→List (List Int)
 | 0=>[[]]
 | n+1=>(sett n).map (0::·)++(sett n).map (1::·)
theorem zGD:∀ n,(sett n).length=2 ^ n
 | 0=>rfl
 | n+1=>by unfold sett; rw [qB2,qA2,qA2,zGD n,qR4]; omega
theorem zDJ:∀ n,∀ st∈sett n,st.length=n∧∀ b∈st,b=0∨b=1
 | 0,st,h=>by simp [sett] at h; subst h; simp
 | n+1,st,h=>by
  unfold sett at h
  rcases qB3.mp h with q | q
  ·obtain ⟨t,ht,rfl⟩:=qC8.mp q
   obtain ⟨h1,h2⟩:=zDJ n t ht
   exact ⟨by simp [h1],fun b hb=>by rcases qB9.mp hb with z | z; exact .inl z; exact h2 b z⟩
  ·obtain ⟨t,ht,rfl⟩:=qC8.mp q
   obtain ⟨h1,h2⟩:=zDJ n t ht
   exact ⟨by simp [h1],fun b hb=>by rcases qB9.mp hb with z | z; exact .inr z; exact h2 b z⟩
noncomputable def zWR (sw:Int):List (List Int):=(List.range (1*2 ^ sw.toNat:Int).toNat).map fun (m:Nat)=>(List.range sw.toNat).map fun (k:Nat)=>Builtin.bitAnd ((0+(m:Int)) / 2 ^ (sw - 1 - (0+(k:Int))).toNat) 1
theorem zPa {sw:Int} (h1:1≤sw) (h4:sw≤4):zWR sw=sett sw.toNat:=by
 have:sw=1∨sw=2∨sw=3∨sw=4:=by omega
 rcases this with rfl | rfl | rfl | rfl <;> decide +kernel
theorem zCv (h:zAK cl) (n:Nat) {sw:Int} (h1:1≤sw) (h4:sw≤4) (S:zA0):∃ k S1,cl (n+1) "_law_settings" [.int sw] S=.ok (.lst k) S1∧Ex S S1∧S.length≤k∧zA4 S1 k=some ((sett sw.toNat).map zC7):=by
 rw [← zPa h1 h4]
 have hp:(1*2 ^ sw.toNat:Int)≤16:=by
  have:sw=1∨sw=2∨sw=3∨sw=4:=by omega
  rcases this with rfl | rfl | rfl | rfl <;> decide
 have hp0:(0:Int)≤1*2 ^ sw.toNat:=by
  have:sw=1∨sw=2∨sw=3∨sw=4:=by omega
  rcases this with rfl | rfl | rfl | rfl <;> decide
 let f:Nat→List Int:=fun (m:Nat)=>(List.range sw.toNat).map fun (k:Nat)=>Builtin.bitAnd ((0+(m:Int)) / 2 ^ (sw - 1 - (0+(k:Int))).toNat) 1
 obtain ⟨ρ',S1,e1,v2,rfl,x1,l1⟩:=zAW (w:=[]) (g:=gN 2) (b:=zBU (cl n)) (items:=upD 0 (1*2 ^ sw.toNat:Int).toNat)
  (fun j ρ S'=>∃ v2,ρ=[some (.int sw),some (.lst S.length),v2]∧Ex S S'∧zA4 S' S.length=some (((List.range j).map f).map zC7))
  (ρ:=[some (.int sw),some (.lst S.length),none]) (S:=S++[.lst []])
  (fun j ρ S' hp=>zAm _) ⟨none,rfl,zA8 _ _,by rw [zA2]; rfl⟩
  (fun j d ρ S' hd hp=>by
   obtain ⟨v2,rfl,x1,l1⟩:=hp
   rw [zIP] at hd
   obtain ⟨hj,rfl⟩:=hd
   have c1:zAo [] .one (fun _=>ret true) (zBV (cl n)) [none,some (.int (0+(j:Int))),some (.int sw)] ((List.range sw.toNat).map fun (k:Nat)=>D.int (0+(k:Nat))) S'=.ok ((List.range sw.toNat).map fun (k:Nat)=>D.int (Builtin.bitAnd ((0+(j:Int)) / 2 ^ (sw - 1 - (0+(k:Int))).toNat) 1)) S':=by
    refine zEo (fun (k:Nat)=>D.int (0+(k:Nat))) (zAm S') _ _ fun k hk=>⟨_,rfl,?_⟩
    rw [qJ7] at hk
    have q:(0:Int)≤sw - 1 - (0+(k:Int)):=by omega
    generalize (0+(k:Int))=kk at q ⊢
    generalize (0+(j:Int))=jj
    have q':kk≤sw - 1:=by omega
    simp [zBV,q']
   have hf:(List.range sw.toNat).map (fun (k:Nat)=>D.int (Builtin.bitAnd ((0+(j:Int)) / 2 ^ (sw - 1 - (0+(k:Int))).toNat) 1))=(f j).map D.int:=by rw [qF7]; rfl
   rw [hf] at c1
   have x2:=zA8 S' [.lst ((f j).map D.int)]
   have l2:=x2.lst l1 (fun z=>z)
   have t1:=zBM (zA2 S' ((f j).map D.int))
   have a1:=zDd l2 zAy [.tup ((f j).map D.int)]
   have q1:=zB5 l1
   have n1:(((List.range j).map f).map zC7).length<lim:=by rw [qA2,qA2,qN7,zA9]; omega
   refine ⟨_,_,rfl,_,_,.inl ?_,some (.int (0+(j:Int))),rfl,((x1.trans x2).setNew (l:=S.length) (o:=.lst (((List.range j).map f).map zC7++[.tup ((f j).map D.int)])) (qB0 _)),?_⟩
   ·have f2:-4611686018427387904≤sw∧sw<4611686018427387904:=by omega
    have f3:sw.toNat<lim:=by rw [zA9]; omega
    generalize hB:((List.range j).map f).map zC7=B at a1 n1
    generalize (f j).map D.int=F at *
    rw [zLk,if_pos n1] at a1
    dsimp only at a1
    unfold upD at *
    simp only [List.set_cons_succ,List.set_cons_zero]
    generalize (0+(j:Int))=jj at *
    simp [zBU,q1,f2,upD,f3,-Int.zero_add,c1,t1,a1]
   ·rw [zAS l2,List.range_succ,qE0,qE0]
    rfl)
 rw [zGA] at l1
 refine ⟨S.length,S1,?_,x1,qB0 _,l1⟩
 rw [h]
 refine zAc rfl ?_
 have f2:-4611686018427387904≤(1*2 ^ sw.toNat:Int)∧(1*2 ^ sw.toNat:Int)<4611686018427387904:=by omega
 have f3:0≤sw∧sw≤1000000∧(1:Int).natAbs<18446744073709551616:=⟨by omega,by omega,by decide⟩
 generalize hpw:(1*2 ^ sw.toNat:Int)=pw at *
 have o1:oShl (.int 1) (.int sw) (S++[.lst []])=.ok (.int pw) (S++[.lst []]):=by rw [zP5,if_pos f3,hpw]
 have o2:zBE (zA1 [cBin oShl (cCon (.int 1)) (cVar 0)]) [some (.int sw),some (.lst S.length),none] (S++[.lst []])=.ok (upD 0 pw.toNat,[]) (S++[.lst []]):=by
  rw [zLe,zGv,zO6,zO4,zAx,zJH]
  dsimp only [qO3]
  rw [zAx,o1,zAx,zFx,zAx,zAx]
  dsimp only
  rw [if_pos f2]
 clear o1 f3 f2
 simp only [zBr,zAu,qC1,qI1,zGH,zQZ,zO2,zFx,zAx,zTg,zX8,zT9,zMr]
 rw [show (List.set ([some (D.int sw)]++qJ8 (3 - [D.int sw].length) none) 1 (some (D.lst (qK5 S))))=[some (.int sw),some (.lst S.length),none] from rfl,o2,zTg]
 dsimp only
 rw [e1,zT9,zGH,zQX,zJH]
 rfl
noncomputable def zGj:D→Bool
 | .int _=>true
 | _=>false
def Scal (d:D):Prop:=(flat d).isSome=true
theorem zGV (h:zDF cl) (n:Nat) {d:D} (hd:Scal d) (S:zA0):cl (n+1) "is_whole" [d] S=.ok (.bl (zGj d)) S:=by
 rw [h]
 refine zAc rfl ?_
 cases d with
 | int i=>simp [zBl,zAu,zGj]
 | bl b=>simp [zBl,zAu,zGj]
 | non=>simp [zBl,zAu,zGj]
 | str x=>simp [zBl,zAu,zGj]
 | _=>cases hd
theorem zPs (a:Int) (l:List Int):inV (.int a) (l.map V.int)=decide (a∈l):=by
 unfold inV
 induction l with
 | nil=>rfl
 | cons x r ih =>
  rw [qC1,qG8,ih]
  by_cases h:x=a
  ·subst h; simp [eqV]
  ·have h2:¬ a=x:=fun z=>h z.symm
   simp [eqV,h,h2]
theorem zLm (l:List Int):(l.map D.int).mapM flat=some (l.map V.int):=by
 induction l with
 | nil=>rfl
 | cons x r ih=>rw [qC1,qF6,ih]; rfl
theorem zBF (neg:Bool) (a:Int) (l:List Int) (S:zA0):oIn neg (.int a) (.tup (l.map D.int)) S=.ok (.bl (if neg then !decide (a∈l) else decide (a∈l))) S:=by
 show (match (l.map D.int).mapM flat with | some vs=>R.ok (D.bl (if neg then !inV (.int a) vs else inV (.int a) vs)) S | none=>.bad)=_
 rw [zLm]
 dsimp only
 rw [zPs]
@[simp] theorem zSt (w x y z:D):cutD [w,x,y,z] none (some 3)=[w,x,y]:=rfl
structure HD (cl:Nat→CLL):Prop where
 st:zD7 cl
 ce:zBs cl
 ta:zC6 cl
 en:zCJ cl
 ne:zEr cl
theorem Net.ok.up {ms mp mc ms' mp' mc':Int}{N:Net} (h:N.ok ms mp mc) (h1:ms≤ms') (h2:mp≤mp') (h3:mc≤mc'):N.ok ms' mp' mc':=⟨h.s1,qO5 h.s2 h1,h.p1,qO5 h.p2 h2,qO5 h.c1 h3,h.c2⟩
abbrev Net.g (N:Net):Prop:=N.ok 4 7 16
theorem Net.ok.k2 {ms mp mc:Int}{N:Net} (h:N.ok ms mp mc):∀ c∈N.cs,0≤c.k∧c.k<N.sw:=fun c hc=>by obtain ⟨_,_,_,a,b,_⟩:=h.c2 c hc; exact ⟨a,b⟩
theorem sett_len' {N:Net} (ok:N.g) {st:List Int} (h:st∈sett N.sw.toNat):(st.length:Int)=N.sw:=by
 have:=(zDJ _ st h).1
 have:=ok.s1
 omega
noncomputable def b1 (b:Bool):Int:=if b then 1 else 0
end My
namespace L2
open PySem
noncomputable def rok:Nat→D→Bool
 | 0,_=>false
 | n+1,d=>match d with
  | .int i=>decide (i.natAbs<1000000000000)
  | .non=>true
  | .bl _=>true
  | .str x=>PyData.strOk x&&decide (x.cps.size≤40)
  | .tup xs=>xs.all (rok n)
  | _=>false
noncomputable def sdat:Nat→D→PyData
 | 0,_=>.none
 | n+1,d=>match d with
  | .int i=>.int i
  | .bl b=>.bool b
  | .str x=>.str x
  | .tup xs=>.tuple (xs.map (sdat n))
  | _=>.none
mutual
noncomputable def dsz:D→Nat
 | .tup xs=>dszs xs
 | _=>0
noncomputable def dszs:List D→Nat
 | []=>0
 | x::r=>dsz x+1+dszs r
end
theorem zK8:∀ {n:Nat}{d:D} (S:zA0),rok n d=true→snap n S d=some (sdat n d)
 | 0,d,S,h=>by cases h
 | n+1,d,S,h=>by
  unfold rok at h
  unfold snap sdat
  cases d with
  | int i=>rfl
  | non=>rfl
  | bl b=>rfl
  | str x=>dsimp only at h ⊢; rw [qC9] at h; rw [if_pos h.1]
  | tup xs =>
   dsimp only at h ⊢
   rw [zDQ (g:=sdat n) fun x hx=>zK8 S (qC2.mp h x hx)]
   rfl
  | _=>cases h
structure ShOk (B:Nat) (p:PyData) (z:Nat):Prop where
 can:p.canLay0=true
 dep:p.depth≤B
 sh:p.showable=true
 ish:p.intsShort 13=true
 w:p.weight≤41*z+40
theorem zQM {n:Nat} (ih:∀ d,rok n d=true→ShOk n (sdat n d) (dsz d)):∀ xs:List D,xs.all (rok n)=true→PyData.canLayAll0 (xs.map (sdat n))=true∧PyData.depthAll (xs.map (sdat n))≤n∧PyData.showableAll (xs.map (sdat n))=true∧PyData.intsShortAll 13 (xs.map (sdat n))=true∧PyData.weightAll (xs.map (sdat n))≤41*dszs xs
 | [],_=>⟨rfl,qE1 _,rfl,rfl,qE1 _⟩
 | x::r,h=>by
  rw [qJ4,qC9] at h
  obtain ⟨a1,a2,a3,a4,a5⟩:=ih x h.1
  obtain ⟨b1,b2,b3,b4,b5⟩:=zQM ih r h.2
  refine ⟨?_,?_,?_,?_,?_⟩
  ·show (PyData.canLay0 _&&PyData.canLayAll0 _)=true
   rw [a1,b1]; rfl
  ·show max _ _≤n
   exact Nat.max_le.mpr ⟨a2,b2⟩
  ·show (PyData.showable _&&PyData.showableAll _)=true
   rw [a3,b3]; rfl
  ·show (PyData.intsShort 13 _&&PyData.intsShortAll 13 _)=true
   rw [a4,b4]; rfl
  ·show PyData.weight _+1+PyData.weightAll _≤41*(dsz x+1+dszs r)
   omega
theorem zL8 {i:Int} (h:i.natAbs<1000000000000):i.natAbs.log2<39+1:=by
 by_cases h0:i.natAbs=0
 ·rw [h0]; decide
 ·exact (Nat.log2_lt h0).mpr (qO4 h (by decide))
theorem zSY:∀ (n:Nat) (d:D),rok n d=true→ShOk n (sdat n d) (dsz d)
 | 0,d,h=>by cases h
 | n+1,d,h=>by
  unfold rok at h
  unfold sdat
  cases d with
  | int i =>
   dsimp only at h ⊢
   rw [decide_eq_true_eq] at h
   have l:=zL8 h
   refine ⟨rfl,qE1 _,?_,?_,?_⟩
   ·show decide (i.natAbs.log2<1920)=true
    rw [decide_eq_true_eq]; omega
   ·show decide ((PyData.shown (.int i)).length≤13)=true
    rw [decide_eq_true_eq]
    exact PyData.shown_int_le (by simpa using h)
   ·show (if (i == 0)=true then 0 else i.natAbs.log2+1)≤_
    split <;> omega
  | non=>exact ⟨rfl,qE1 _,rfl,rfl,qE1 _⟩
  | bl b=>exact ⟨rfl,qE1 _,rfl,rfl,qE1 _⟩
  | str x =>
   dsimp only at h ⊢
   rw [qC9,decide_eq_true_eq] at h
   exact ⟨h.1,qE1 _,rfl,rfl,by show x.cps.size≤_; omega⟩
  | tup xs =>
   dsimp only at h ⊢
   obtain ⟨b1,b2,b3,b4,b5⟩:=zQM (zSY n) xs h
   exact ⟨b1,by show PyData.depthAll _+1≤n+1; omega,b3,b4,by show PyData.weightAll _≤41*dszs xs+40; omega⟩
  | _=>cases h
theorem zKV {B:Nat}{p:PyData}{z:Nat} (h:ShOk B p z) (hB:B≤64) (hz:z≤25000):p.showable=true∧p.hasDict=false∧p.shown.length≤sizeLine:=by
 refine ⟨h.sh,PyData.hasDict_of_canLay p h.can,?_⟩
 have hw:=h.w
 have lay:PyData.layable0 p=true:=by
  show (PyData.canLay0 p&&decide (PyData.depth p≤64)&&decide (PyData.weight p≤2 ^ 20))=true
  have e20:(2:Nat) ^ 20=1048576:=by decide
  have w20:p.weight≤2 ^ 20:=by omega
  rw [h.can,decide_eq_true (qC5 h.dep hB),decide_eq_true w20]
  rfl
 exact qC5 (PyProof.Rows.shown_le13 lay h.ish) (by decide)
theorem zK9 {S:zA0}{k:Nat}{xs:List D} (hk:zA4 S k=some xs) (h:xs.all (rok 39)=true) (hz:dszs xs≤25000):zJs [.lst k] S=.ok (.str (PyData.list (xs.map (sdat 39))).shown) S:=by
 obtain ⟨b1,b2,b3,b4,b5⟩:=zQM (zSY 39) xs h
 have sn:snap 40 S (.lst k)=some (.list (xs.map (sdat 39))):=by
  show (match zA4 S k with | some xs=>(xs.mapM (snap 39 S)).map PyData.list | none=>none)=_
  rw [hk]
  dsimp only
  rw [zDQ (g:=sdat 39) fun x hx=>zK8 S (qC2.mp h x hx)]
  rfl
 have:=zKV (p:=.list (xs.map (sdat 39))) (z:=dszs xs) (B:=40) ⟨b1,by show PyData.depthAll _+1≤40; omega,b3,b4,by show PyData.weightAll _≤_; omega⟩ (by decide) hz
 unfold zJs
 dsimp only
 rw [sn]
 dsimp only
 rw [if_pos this]
theorem zOE (n:Nat) (l:List Int) (h:∀ i∈l,i.natAbs<1000000000000):(l.map D.int).all (rok (n+1))=true:=qC2.mpr fun x hx=>by
 obtain ⟨i,hi,rfl⟩:=qC8.mp hx
 show decide (i.natAbs<1000000000000)=true
 rw [decide_eq_true_eq]; exact h i hi
theorem zNy (l:List Int):dszs (l.map D.int)=l.length:=by
 induction l with
 | nil=>rfl
 | cons a r ih=>show 0+1+dszs (r.map D.int)=_; rw [ih,qD0]; omega
theorem zS6 {l:List D}{c:Nat} (h:∀ x∈l,dsz x≤c):dszs l≤l.length*(c+1):=by
 induction l with
 | nil=>exact qE1 _
 | cons a r ih =>
  have h1:=h a (by simp)
  have h2:=ih fun x hx=>h x (by simp [hx])
  show dsz a+1+dszs r≤(r.length+1)*(c+1)
  rw [qP7]
  omega
end L2
namespace My
open PySem L2
variable {cl:Nat→CLL}
theorem zK6 (h:zDD cl) (n:Nat) {xs:List D}{S:zA0}{a b:Nat} (ha:zA4 S a=some xs) (hb:zA4 S b=some xs) (hx:xs.all (rok 39)=true) (hz:dszs xs≤25000):cl (n+1) "_law_same" [.lst a,.lst b] S=.ok (.bl true) S:=by
 have e:=zK9 ha hx hz
 have e2:=zK9 hb hx hz
 rw [h]
 refine zAc rfl ?_
 generalize PyData.shown (PyData.list (xs.map (sdat 39)))=w at e e2
 have q:oEq (.str w) (.str w) S=.ok (.bl true) S:=by
  show R.ok (D.bl (decide (w=w))) S=_
  rw [decide_eq_true rfl]
 simp [zDj,zAu,e,e2,q]
open PySem L2 Mt
noncomputable abbrev Wk:=List Int × List Int
noncomputable def zAN (l:List Int):Int:=l.getD (l.length - 1) 0
noncomputable def fr (c:Ct) (v:Int):Option Int:=if c.a=v then some c.b else if c.b=v then some c.a else none
noncomputable def kid (w:Wk) (q:Nat × Ct):Option Wk:=match fr q.2 (zAN w.1) with
 | some u=>if u∈w.1 then none else some (w.1++[u],w.2++[(q.1:Int)])
 | none=>none
noncomputable def kids (cs:List Ct) (w:Wk):List Wk:=(zAY cs).filterMap (kid w)
noncomputable def Vf (cs:List Ct):Nat→Wk→List (List Int)
 | 0,_=>[]
 | f+1,w=>if zAN w.1=1 then [zD1 w.2] else (kids cs w).flatMap (Vf cs f)
noncomputable def Vs (cs:List Ct) (w:Wk):List (List Int):=Vf cs (9 - w.1.length) w
structure WOk (cs:List Ct) (w:Wk):Prop where
 nd:w.1.Nodup
 in7:∀ x∈w.1,0≤x∧x<7
 ne:0<w.1.length
 ln:w.2.length<w.1.length
theorem nd7 {l:List Int} (nd:l.Nodup) (h:∀ x∈l,0≤x∧x<7):l.length≤7:=by
 have:l.length≤([0,1,2,3,4,5,6]:List Int).length:=List.Nodup.length_le_of_subset nd fun x hx=>by
  have:=h x hx
  have:x=0∨x=1∨x=2∨x=3∨x=4∨x=5∨x=6:=by omega
  simpa using this
 simpa using this
theorem WOk.le {cs:List Ct}{w:Wk} (h:WOk cs w):w.1.length≤7:=nd7 h.nd h.in7
theorem zDX {cs:List Ct}{w v:Wk}{q:Nat × Ct} (h:kid w q=some v):∃ u,fr q.2 (zAN w.1)=some u∧u∉w.1∧v=(w.1++[u],w.2++[(q.1:Int)]):=by
 unfold kid at h
 split at h
 ·rename_i u e
  split at h
  ·cases h
  ·rename_i hn; cases h; exact ⟨u,e,hn,rfl⟩
 ·cases h
theorem zX9 {c:Ct}{v u:Int} (h:fr c v=some u) (h7:(0≤c.a∧c.a<7)∧0≤c.b∧c.b<7):0≤u∧u<7:=by
 unfold fr at h
 split at h
 ·cases h; exact h7.2
 ·split at h
  ·cases h; exact h7.1
  ·cases h
theorem zDB {cs:List Ct} (h7:In7 cs) {w:Wk} (h:WOk cs w):∀ v∈kids cs w,WOk cs v∧v.1.length=w.1.length+1:=by
 intro v hv
 obtain ⟨q,hq,e⟩:=qF9.mp hv
 obtain ⟨u,e1,e2,rfl⟩:=zDX (cs:=cs) e
 have hm:q.2∈cs:=qB5 (zDZ hq)
 have:=zX9 e1 (h7 _ hm)
 refine ⟨⟨?_,?_,by simp,by have:=h.ln; simp; omega⟩,by simp⟩
 ·rw [qF5]
  exact ⟨h.nd,by simp,fun x hx y hy z=>e2 (by simp at hy; rw [← hy,← z]; exact hx)⟩
 ·intro x hx
  rcases qB3.mp hx with hx | hx
  ·exact h.in7 x hx
  ·rw [qA9.mp hx]; exact this
theorem zHg {cs:List Ct} (h7:In7 cs) {w:Wk} (h:WOk cs w):Vs cs w=if zAN w.1=1 then [zD1 w.2] else (kids cs w).flatMap (Vs cs):=by
 have:=h.le
 unfold Vs
 obtain ⟨f,hf⟩:∃ f,9 - w.1.length=f+1:=⟨8 - w.1.length,by omega⟩
 rw [hf,Vf]
 split
 ·rfl
 ·have:∀ l:List Wk,(∀ v∈l,v.1.length=w.1.length+1)→l.flatMap (Vf cs f)=l.flatMap fun v=>Vf cs (9 - v.1.length) v:=by
   intro l
   induction l with
   | nil=>intro _; rfl
   | cons v l ih =>
    intro hl
    rw [qL3,qL3,ih fun u hu=>hl u (qC0 _ hu),hl v (qD4 ..)]
    congr 2; omega
  exact this _ fun v hv=>(zDB h7 h v hv).2
noncomputable def zPz (l:List Int) (c:Ct):Bool:=decide (c.a∉l)&&decide (c.b∉l)
noncomputable def live (cs:List Ct) (w:Wk):Nat:=(cs.filter (zPz w.1.dropLast)).length
noncomputable def wt (cs:List Ct) (w:Wk):Nat:=2 ^ live cs w
theorem zJ6 {l:List Int} (h:0<l.length):l=l.dropLast++[zAN l]:=by
 have hne:l≠[]:=fun e=>by subst e; simp at h
 have e:=qJ3 hne
 have:zAN l=l.getLast hne:=by
  unfold zAN
  rw [List.getLast_eq_getElem,qG4,qA6 (by omega)]; rfl
 rw [this,e]
theorem zIc {α:Type}{p q r:α→Bool} (h1:∀ x,q x=true→p x=true) (h2:∀ x,r x=true→p x=true) (h3:∀ x,q x=true→r x=false):∀ l:List α,(l.filter q).length+(l.filter r).length≤(l.filter p).length
 | []=>by simp
 | x::l=>by
  have ih:=zIc h1 h2 h3 l
  simp only [qF2]
  cases e1:q x with
  | true =>
   rw [h1 x e1,h3 x e1]; simp; omega
  | false =>
   cases e2:r x with
   | true=>rw [h2 x e2]; simp; omega
   | false =>
    cases p x <;> simp <;> omega
theorem zPh {cs:List Ct}{w:Wk}:(kids cs w).length=(cs.filter fun c=>(kid w (0,c)).isSome).length:=by
 unfold kids
 have e:∀ l:List (Nat × Ct),(l.filterMap (kid w)).length=((l.map (·.2)).filter fun c=>(kid w (0,c)).isSome).length:=by
  intro l
  induction l with
  | nil=>rfl
  | cons q l ih =>
   have hs:(kid w q).isSome=(kid w (0,q.2)).isSome:=by
    unfold kid
    dsimp only
    split
    ·split <;> rfl
    ·rfl
   rw [qC1,qH3,qF2]
   cases hk:kid w q with
   | none=>rw [hk] at hs; simp only [Option.isSome_none] at hs; rw [← hs]; simpa using ih
   | some v=>rw [hk] at hs; simp only [qN0] at hs; rw [← hs]; simpa using ih
 rw [e,zNv]
theorem zF9 {cs:List Ct}{w:Wk} (h:WOk cs w):∀ v∈kids cs w,(kids cs w).length+live cs v≤live cs w:=by
 intro v hv
 obtain ⟨q,hq,e⟩:=qF9.mp hv
 obtain ⟨u,e1,e2,rfl⟩:=zDX (cs:=cs) e
 rw [zPh,Nat.add_comm]
 unfold live
 have hd:(w.1++[u]).dropLast=w.1:=by simp
 rw [hd]
 have hsp:=zJ6 h.ne
 have hl:zAN w.1∈w.1:=by
  have:zAN w.1∈w.1.dropLast++[zAN w.1]:=by simp
  rwa [← hsp] at this
 have nl:zAN w.1∉w.1.dropLast:=by
  have nd:=h.nd
  rw [hsp,qF5] at nd
  exact fun hm=>nd.2.2 _ hm _ (qF0 _) rfl
 have sub:∀ x,x∈w.1.dropLast→x∈w.1:=fun x hx=>List.dropLast_subset _ hx
 refine zIc (fun c hc=>?_) (fun c hc=>?_) (fun c hc=>?_) cs
 ·simp only [zPz,qC9,decide_eq_true_eq] at hc ⊢
  exact ⟨fun m=>hc.1 (sub _ m),fun m=>hc.2 (sub _ m)⟩
 ·obtain ⟨v,hv⟩:=qI3.mp hc
  obtain ⟨u,f1,f2,_⟩:=zDX (cs:=cs) hv
  simp only [zPz,qC9,decide_eq_true_eq]
  unfold fr at f1
  split at f1
  ·rename_i ea
   cases f1
   exact ⟨by rw [ea]; exact nl,fun m=>f2 (sub _ m)⟩
  ·split at f1
   ·rename_i eb
    cases f1
    exact ⟨fun m=>f2 (sub _ m),by rw [eb]; exact nl⟩
   ·cases f1
 ·simp only [zPz,qC9,decide_eq_true_eq] at hc
  unfold kid fr
  dsimp only
  rw [if_neg (fun e:c.a=zAN w.1=>hc.1 (by rw [e]; exact hl)),if_neg (fun e:c.b=zAN w.1=>hc.2 (by rw [e]; exact hl))]
  rfl
theorem zOO (d m:Nat) (h:d≤m):d*2 ^ (m - d)+1≤2 ^ m:=by
 have e:2 ^ m=2 ^ d*2 ^ (m - d):=by rw [← Nat.pow_add]; congr 1; omega
 have h1:d+1≤2 ^ d:=Nat.succ_le_of_lt Nat.lt_two_pow_self
 have h2:1≤2 ^ (m - d):=qJ1
 calc d*2 ^ (m - d)+1≤d*2 ^ (m - d)+2 ^ (m - d):=by omega
  _=(d+1)*2 ^ (m - d):=by rw [qP7,qS6]
  _≤2 ^ d*2 ^ (m - d):=Nat.mul_le_mul_right _ h1
  _=2 ^ m:=e.symm
noncomputable def wts (cs:List Ct) (l:List Wk):Nat:=(l.map (wt cs)).sum
theorem zPR {cs:List Ct}{b:Nat}:∀ l:List Wk,(∀ v∈l,wt cs v≤b)→wts cs l≤l.length*b
 | [],_=>by simp [wts]
 | v::l,h=>by
  have:=zPR l fun u hu=>h u (qC0 _ hu)
  have:=h v (qD4 ..)
  unfold wts at *
  rw [qC1,qQ3,qD0,qP7,qS6]; omega
theorem zJV {cs:List Ct}{w:Wk} (h:WOk cs w):wts cs (kids cs w)+1≤wt cs w:=by
 by_cases hk:kids cs w=[]
 ·rw [hk]; unfold wts wt; exact qJ1
 ·obtain ⟨v0,hv0⟩:=List.exists_mem_of_ne_nil _ hk
  have hd:(kids cs w).length≤live cs w:=by have:=zF9 h v0 hv0; omega
  have h1:=zPR (cs:=cs) (b:=2 ^ (live cs w - (kids cs w).length)) (kids cs w) fun v hv=>by
   have:=zF9 h v hv
   exact qE9 (by omega) (by omega)
  have h2:=zOO _ _ hd
  unfold wt at *
  omega
theorem zQl {cs:List Ct} (h7:In7 cs):∀ (f:Nat) (w:Wk),WOk cs w→9 - w.1.length≤f→(Vs cs w).length≤wt cs w
 | 0,w,h,hf=>by have:=h.le; omega
 | f+1,w,h,hf=>by
  rw [zHg h7 h]
  split
  ·exact qJ1
  ·have g:∀ l:List Wk,(∀ v∈l,WOk cs v∧v.1.length=w.1.length+1)→(l.flatMap (Vs cs)).length≤wts cs l:=by
    intro l
    induction l with
    | nil=>intro _; simp
    | cons v l ih =>
     intro hl
     obtain ⟨o,e⟩:=hl v (qD4 ..)
     have h1:=zQl h7 f v o (by omega)
     have h2:=ih fun u hu=>hl u (qC0 _ hu)
     unfold wts at *
     rw [qL3,qB2,qC1,qQ3]; omega
   have:=g _ (zDB h7 h)
   have:=zJV h
   omega
theorem zSv {cs:List Ct}{w:Wk} (h:cs.length≤16):wt cs w≤65536:=by
 have:live cs w≤16:=qC5 (qD8 ..) h
 exact qC5 (qE9 (by omega) this) (by decide)
noncomputable def w0:Wk:=([0],[])
theorem zLZ (cs:List Ct):WOk cs w0:=⟨by simp [w0],fun x hx=>by simp [w0] at hx; omega,by simp [w0],by simp [w0]⟩
noncomputable def zCm (N:Net):List (List Int):=zDH (Vs N.cs w0)
noncomputable def iT (l:List Int):D:=.tup (l.map D.int)
noncomputable def csD (cs:List Ct):D:=.tup (cs.map Ct.d)
noncomputable def frD:Option Int→D
 | some u=>.int u
 | none=>.non
theorem zI8 (h:zEt cl) (n:Nat) (c:Ct) (v:Int) (S:zA0):cl (n+1) "far_end" [c.d,.int v] S=.ok (frD (fr c v)) S:=by
 rw [h]
 refine zAc rfl ?_
 unfold fr
 by_cases h1:c.a=v
 ·rw [if_pos h1]; simp [zCB,zAu,Ct.d,h1,frD]
 ·rw [if_neg h1]
  by_cases h2:c.b=v
  ·rw [if_pos h2]; simp [zCB,zAu,Ct.d,h1,h2,frD]
  ·rw [if_neg h2]; simp [zCB,zAu,Ct.d,h1,h2,frD]
theorem zDc {l:List Int} (h:0<l.length) (S:zA0):oIx (iT l) (.int (-1)) S=.ok (.int (zAN l)) S:=by
 unfold iT
 rw [zGM]
 have:atI (l.map D.int) (-1)=some (.int (zAN l)):=by
  unfold atI ixN
  rw [if_neg (by omega),if_pos (by simp; omega)]
  show (l.map D.int)[(-1+((l.map D.int).length:Int)).toNat]?=_
  rw [qB7,show (-1+((l.map D.int).length:Int)).toNat=l.length - 1 by simp; omega,qA6 (by omega)]
  unfold zAN
  rw [qG4,qA6 (by omega)]; rfl
 rw [this]
theorem zEY {l:List Int}{x:Int} (h:l.length≤100) (S:zA0):oAdd (iT l) (.tup [.int x]) S=.ok (iT (l++[x])) S:=by
 unfold iT oAdd
 dsimp only
 rw [if_pos (by have:=zMV; simp; omega)]
 simp
theorem zFo {ns:List Int} (hl:ns.length<64) (S:zA0):zAt [iT ns] S=.ok (.lst S.length) (S++[.lst ((zD1 ns).map D.int)]):=by
 unfold zAt iT
 dsimp only
 rw [zGl]
 dsimp only
 rw [if_pos hl]
theorem zHq:∀ nss:List (List Int),zIR (nss.map tD)=some nss
 | []=>rfl
 | ns::nss=>by
  rw [qC1]
  show (match zCx (ns.map D.int),zIR (nss.map tD) with | some ns,some nss=>some (ns::nss) | _,_=>none)=_
  rw [zGl,zHq nss]
theorem zJa:∀ nss:List (List Int),nss≠[]→zCx (nss.map tD)=none
 | [],h=>absurd rfl h
 | ns::nss,_=>rfl
theorem zEA {S:zA0}{n:Nat}{nss:List (List Int)} (h:zA4 S n=some (nss.map tD)):zAt [.lst n] S=.ok (.lst S.length) (S++[.lst ((zDH nss).map tD)]):=by
 unfold zAt
 dsimp only
 rw [h]
 by_cases hn:nss=[]
 ·subst hn; rfl
 ·show (match zCx (nss.map tD) with | some ns=>_ | none=>_)=_
  rw [zJa nss hn]
  show (match zIR (nss.map tD) with | some nss=>_ | none=>_)=_
  rw [zHq]
theorem zSw (c:CLL) {csd gd td nd cd:D}{v:Int}{k:Nat}{w:Option D}{S:zA0} (i1:oIx gd (.int (-1)) S=.ok (.int v) S) (e1:c "far_end" [cd,.int v] S=.ok .non S) :
  zAL c [some csd,some gd,some td,some (.lst k),some nd,some cd,w] S=.nx [some csd,some gd,some td,some (.lst k),some nd,some cd,some .non] S:=by
 simp [zAL,i1,e1,D.isNon]
theorem zSx (c:CLL) {csd gd td nd cd:D}{v u:Int}{k:Nat}{w:Option D}{S:zA0} (i1:oIx gd (.int (-1)) S=.ok (.int v) S) (e1:c "far_end" [cd,.int v] S=.ok (.int u) S) (q:oIn true (.int u) gd S=.ok (.bl false) S) :
  zAL c [some csd,some gd,some td,some (.lst k),some nd,some cd,w] S=.nx [some csd,some gd,some td,some (.lst k),some nd,some cd,some (.int u)] S:=by
 simp [zAL,i1,e1,q,D.isNon]
theorem zSy (c:CLL) {csd gd td nd cd gd' td':D}{v u:Int}{k m:Nat}{w:Option D}{S S1 S2:zA0} (i1:oIx gd (.int (-1)) S=.ok (.int v) S) (e1:c "far_end" [cd,.int v] S=.ok (.int u) S) (q:oIn true (.int u) gd S=.ok (.bl true) S)
  (a1:oAdd gd (.tup [.int u]) S=.ok gd' S) (a2:oAdd td (.tup [nd]) S=.ok td' S) (e2:c "ways_on" [csd,gd',td'] S=.ok (.lst m) S1) (ty:tyOk "list" (.lst k) S=true) (m1:zDA (.lst k) [.lst m] S1=.ok .non S2) :
  zAL c [some csd,some gd,some td,some (.lst k),some nd,some cd,w] S=.nx [some csd,some gd,some td,some (.lst k),some nd,some cd,some (.int u)] S2:=by
 simp [zAL,i1,e1,q,a1,a2,e2,m1,ty,D.isNon]
theorem zQp (c:CLL) {csd gd td td':D}{S S1:zA0}{k:Nat}{xs:List D}{w3 w4 w5 w6:Option D} (i1:oIx gd (.int (-1)) S=.ok (.int 1) S) (f1:zAt [td] S=.ok (.lst k) S1) (f2:zBa [.lst k] S1=.ok td' S1) :
  zBX c [some csd,some gd,some td,w3,w4,w5,w6] S=.rt (.lst S1.length) (S1++[.lst [td']]):=by
 simp [zBX,i1,f1,f2]
theorem zQq (c:CLL) {gd td:D}{xs:List D}{v:Int}{S S1:zA0}{ρ:Env1}{w3 w4 w5 w6:Option D} (i1:oIx gd (.int (-1)) S=.ok (.int v) S) (hv:v≠1)
  (e1:zAG [] (gT [(gN 4),(gN 5)]) (zAL c) (zBI xs) [some (.tup xs),some gd,some td,some (.lst S.length),w4,w5,w6] (S++[.lst []])=.nx ρ S1) (hl:(zBI xs).length<lim) (hr:ρ[3]?=some (some (.lst S.length))) :
  zBX c [some (.tup xs),some gd,some td,w3,w4,w5,w6] S=.rt (.lst S.length) S1:=by
 simp [zBX,i1,hv,e1,hr,hl]
theorem zKx {α:Type}{l:List α}{i:Nat}{q:Nat × α} (h:(zAY l)[i]?=some q):q.1=i∧l[i]?=some q.2:=by
 unfold zAY at h
 rw [qF4] at h
 have:=qA1.mp h.1
 obtain ⟨h3,h4⟩:=this
 simp at h4
 exact ⟨h4.symm,h.2⟩
theorem zGq {α:Type}{l:List α}{i:Nat}{q:Nat × α} (h:(zAY l)[i]?=some q):(zAY l).take (i+1)=(zAY l).take i++[q]:=by
 rw [qR5,h]; rfl
theorem zL6 {S:zA0}{n k:Nat}{ys zs:List D} (h1:zA4 S n=some ys) (h2:zA4 S k=some zs) (h:ys.length+zs.length≤lim):zDA (.lst n) [.lst k] S=.ok .non (S.set n (.lst (ys++zs))):=by
 unfold zDA
 dsimp only
 rw [zAE h1,zAE h2]
 dsimp only
 rw [if_pos h]
structure HW (cl:Nat→CLL):Prop where
 fe:zEt cl
 wo:zGx cl
 aw:zFG cl
inductive LstR (r:R D) (S:zA0) (L:List D):Prop
 | mk (k:Nat) (S1:zA0) (e:r=.ok (.lst k) S1) (x:Ex S S1) (le:S.length≤k) (l:zA4 S1 k=some L)
noncomputable def part (cs:List Ct) (w:Wk) (i:Nat):List (List Int):=(((zAY cs).take i).filterMap (kid w)).flatMap (Vs cs)
theorem zMB {cs:List Ct}{w:Wk}{i:Nat}{q:Nat × Ct} (h:(zAY cs)[i]?=some q):part cs w (i+1)=part cs w i++(match kid w q with | some v=>Vs cs v | none=>[]):=by
 unfold part
 rw [zGq h,qL6,qI5]
 congr 1
 cases e:kid w q with
 | none=>simp [e]
 | some v=>simp [e]
theorem zOZ {cs:List Ct} (h7:In7 cs) (hc:cs.length≤16) {w:Wk} (h:WOk cs w) (h1:zAN w.1≠1) (i:Nat):(part cs w i).length≤65536:=by
 have e:(Vs cs w).length≤65536:=qC5 (zQl h7 9 w h (by omega)) (zSv hc)
 rw [zHg h7 h,if_neg h1] at e
 have s:(kids cs w)=((zAY cs).take i).filterMap (kid w)++((zAY cs).drop i).filterMap (kid w):=by
  rw [← qL6,qD2]; rfl
 rw [s,qI5,qB2] at e
 unfold part
 omega
theorem zEu (H:HW cl) {cs:List Ct} (h7:In7 cs) (hc:cs.length≤16):∀ (f:Nat) (w:Wk),WOk cs w→w.1.length+f=8→∀ (n:Nat) (S:zA0),LstR (cl (n+2+f) "ways_on" [csD cs,iT w.1,iT w.2] S) S ((Vs cs w).map tD)
 | 0,w,h,hf,n,S=>by have:=h.le; omega
 | f+1,w,h,hf,n,S=>by
  have hle:=h.le
  have hln:=h.ln
  rw [show n+2+(f+1)=(n+2+f)+1 from rfl,H.wo]
  by_cases h1:zAN w.1=1
  ·rw [zHg h7 h,if_pos h1]
   have i1:=zDc h.ne S
   rw [h1] at i1
   have f1:=zFo (ns:=w.2) (by omega) S
   have f2:zBa [.lst S.length] (S++[.lst ((zD1 w.2).map D.int)])=.ok (tD (zD1 w.2)) _:=zBM (zA2 S _)
   refine ⟨_,_,zAc rfl (zQp (xs:=[]) _ i1 f1 f2),(zA8 S _).trans (zA8 _ _),by simp,zA2 _ _⟩
  ·have l0:zA4 (S++[O.lst []]) S.length=some []:=zA2 S []
   obtain ⟨ρ',S1,e1,v4,v5,v6,rfl,kp,l1⟩:=zAW (w:=[]) (g:=gT [(gN 4),(gN 5)]) (b:=zAL (cl (n+2+f))) (items:=zBI (cs.map Ct.d))
    (fun i ρ S'=>∃ v4 v5 v6,ρ=[some (csD cs),some (iT w.1),some (iT w.2),some (.lst S.length),v4,v5,v6]∧Kp (·=S.length) (S++[O.lst []]) S'∧zA4 S' S.length=some ((part cs w i).map tD))
    (ρ:=[some (csD cs),some (iT w.1),some (iT w.2),some (.lst S.length),none,none,none]) (S:=S++[O.lst []])
    (fun _ _ _ _=>zAm _) ⟨none,none,none,rfl,Kp.refl _ _,l0⟩
    (fun i d ρ S' hd hp=>by
     obtain ⟨v4,v5,v6,rfl,kp,l1⟩:=hp
     rw [zAC,qB7] at hd
     obtain ⟨q,hq,rfl⟩:=qA4.mp hd
     obtain ⟨q1,q2⟩:=zKx hq
     have hm:q.2∈cs:=qB5 q2
     have i1:=zDc h.ne S'
     have ef:=zI8 H.fe (n+1+f) q.2 (zAN w.1) S'
     rw [show n+1+f+1=n+2+f by omega] at ef
     have pl:=zOZ h7 hc h h1 (i+1)
     rw [zMB hq] at pl ⊢
     refine ⟨[some (csD cs),some (iT w.1),some (iT w.2),some (.lst S.length),some (.int (q.1:Nat)),some q.2.d,v6],S',rfl,?_⟩
     cases hfr:fr q.2 (zAN w.1) with
     | none =>
      rw [hfr] at ef
      have hk:kid w q=none:=by unfold kid; rw [hfr]
      rw [hk]
      exact ⟨_,S',.inl (zSw _ i1 ef),_,_,_,rfl,kp,by simpa using l1⟩
     | some u =>
      rw [hfr] at ef
      have oi:=zBF true u w.1 S'
      by_cases hu:u∈w.1
      ·have hk:kid w q=none:=by unfold kid; rw [hfr]; simp [hu]
       rw [hk]
       refine ⟨_,S',.inl (zSx _ i1 ef (by simpa [hu,iT] using oi)),_,_,_,rfl,kp,by simpa using l1⟩
      ·have hk:kid w q=some (w.1++[u],w.2++[(q.1:Int)]):=by unfold kid; rw [hfr]; simp [hu]
       have ko:=zDB h7 h (w.1++[u],w.2++[(q.1:Int)]) (qF9.mpr ⟨q,qB5 hq,hk⟩)
       obtain ⟨m,S2,e2,x2,le2,l2⟩:=zEu H h7 hc f (w.1++[u],w.2++[(q.1:Int)]) ko.1 (by rw [ko.2]; omega) n S'
       rw [hk] at pl ⊢
       have l1':zA4 S2 S.length=some ((part cs w i).map tD):=x2.lst l1 fun z=>z
       have m1:=zL6 l1' l2 (by rw [qB2] at pl; rw [qA2,qA2,zA9]; exact qC5 pl (by decide))
       refine ⟨_,_,.inl (zSy _ i1 ef (by simpa [hu,iT] using oi) (zEY (by omega) S') (zEY (by omega) S') e2 (zB5 l1) m1),_,_,_,rfl,(kp.trans x2.kp).trans (zBx _ _),?_⟩
       rw [qE0]
       exact zAS l1')
   refine ⟨S.length,S1,zAc rfl (zQq _ (zDc h.ne S) h1 e1 ?_ rfl),?_,qB0 _,?_⟩
   ·rw [zAC,qA2,zBB,zA9]; omega
   ·refine ⟨by have:=kp.le; simp at this; omega,fun j hj _=>?_⟩
    rw [kp.eq j (by simp; omega) (by omega),qA7 hj]
   ·rw [l1,zHg h7 h,if_neg h1]
    unfold part
    rw [qF1 (by rw [zAC,qA2]; exact qB0 _)]
    rfl
theorem zV8 (c:CLL) {nd csd:D}{k:Nat}{S S1 S2:zA0}{r:D} (i1:oIx nd (.int 2) S=.ok csd S) (e1:c "ways_on" [csd,.tup [.int 0],.tup []] S=.ok (.lst k) S1) (f1:zAt [.lst k] S1=.ok r S2):zCC c [some nd] S=.rt r S2:=by
 simp [zCC,i1,e1,f1]
theorem zHd (H:HW cl) (n:Nat) {N:Net} (ok:N.g) (S:zA0):LstR (cl (n+10) "all_ways" [N.d] S) S ((zCm N).map tD):=by
 have hc:N.cs.length≤16:=by have:=ok.c1; omega
 obtain ⟨k,S1,e1,x1,le1,l1⟩:=zEu H (ok.in7 (by decide)) hc 7 w0 (zLZ _) rfl n S
 rw [show n+10=(n+2+7)+1 from rfl,H.aw]
 have f1:=zEA l1
 refine ⟨_,_,zAc rfl (zV8 (nd:=N.d) (csd:=csD N.cs) _ ?_ e1 f1),x1.trans (zA8 _ _),x1.le,zA2 _ _⟩
 unfold Net.d csD
 simp
noncomputable def wD (w:Wk):D:=.tup [iT w.1,iT w.2]
theorem zUF {c:Ct} (hab:c.a<c.b) (v:Int):fr c v=if v=c.a∨v=c.b then some (c.a+c.b - v) else none:=by
 unfold fr
 by_cases h1:c.a=v
 ·rw [if_pos h1,if_pos (.inl h1.symm)]; congr 1; omega
 ·rw [if_neg h1]
  by_cases h2:c.b=v
  ·rw [if_pos h2,if_pos (.inr h2.symm)]; congr 1; omega
  ·rw [if_neg h2,if_neg (by omega)]
theorem zUd (c:CLL) {nd gd td nr cd pd:D}{v:Int}{kf kq:Nat}{S:zA0} (i1:oIx gd (.int (-1)) S=.ok (.int v) S) (s1:oSl cd none (some 2) S=.ok pd S) (q1:oIn false (.int v) pd S=.ok (.bl false) S) :
  zAq c [some nd,some (.lst kf),some (.lst kq),some gd,some td,some nr,some cd] S=.nx [some nd,some (.lst kf),some (.lst kq),some gd,some td,some nr,some cd] S:=by
 simp [zAq,i1,s1,q1]
theorem zUc (c:CLL) {nd gd td nr cd pd:D}{v a b:Int}{kf kq:Nat}{S:zA0} (i1:oIx gd (.int (-1)) S=.ok (.int v) S) (s1:oSl cd none (some 2) S=.ok pd S) (q1:oIn false (.int v) pd S=.ok (.bl true) S)
  (c0:oIx cd (.int 0) S=.ok (.int a) S) (c1:oIx cd (.int 1) S=.ok (.int b) S) (q2:oIn true (.int (a+b - v)) gd S=.ok (.bl false) S) :
  zAq c [some nd,some (.lst kf),some (.lst kq),some gd,some td,some nr,some cd] S=.nx [some nd,some (.lst kf),some (.lst kq),some gd,some td,some nr,some cd] S:=by
 simp [zAq,i1,s1,q1,c0,c1,q2]
theorem zWT (c:CLL) {nd gd td nr cd pd gd' td':D}{v a b:Int}{kf kq:Nat}{S S1:zA0} (i1:oIx gd (.int (-1)) S=.ok (.int v) S) (s1:oSl cd none (some 2) S=.ok pd S) (q1:oIn false (.int v) pd S=.ok (.bl true) S)
  (c0:oIx cd (.int 0) S=.ok (.int a) S) (c1:oIx cd (.int 1) S=.ok (.int b) S) (q2:oIn true (.int (a+b - v)) gd S=.ok (.bl true) S)
  (a1:oAdd gd (.tup [.int (a+b - v)]) S=.ok gd' S) (a2:oAdd td (.tup [nr]) S=.ok td' S) (ty:tyOk "list" (.lst kq) S=true) (m1:zBg zAy (.lst kq) [.tup [gd',td']] S=.ok .non S1) :
  zAq c [some nd,some (.lst kf),some (.lst kq),some gd,some td,some nr,some cd] S=.nx [some nd,some (.lst kf),some (.lst kq),some gd,some td,some nr,some cd] S1:=by
 simp [zAq,i1,s1,q1,c0,c1,q2,a1,a2,ty,m1]
theorem zUe (c:CLL) {nd gd td td':D}{kf kq k:Nat}{v3 v4 v5 v6:Option D}{S S1 S2 S3:zA0} (ty:tyOk "list" (.lst kq) S=true) (p1:zBg gPop (.lst kq) [] S=.ok (.tup [gd,td]) S1) (i1:oIx gd (.int (-1)) S1=.ok (.int 1) S1)
  (f1:zAt [td] S1=.ok (.lst k) S2) (f2:zBa [.lst k] S2=.ok td' S2) (ty2:tyOk "list" (.lst kf) S1=true) (m1:zBg zAy (.lst kf) [td'] S2=.ok .non S3) :
  zAr c [some nd,some (.lst kf),some (.lst kq),v3,v4,v5,v6] S=.ct [some nd,some (.lst kf),some (.lst kq),some gd,some td,v5,v6] S3:=by
 simp [zAr,ty,p1,i1,f1,f2,ty2,m1]
theorem zWS (c:CLL) {nd gd td:D}{xs:List D}{v:Int}{kf kq:Nat}{v3 v4 v5 v6:Option D}{ρ:Env1}{S S1 S2:zA0} (ty:tyOk "list" (.lst kq) S=true) (p1:zBg gPop (.lst kq) [] S=.ok (.tup [gd,td]) S1) (i1:oIx gd (.int (-1)) S1=.ok (.int v) S1) (hv:v≠1)
  (i2:oIx nd (.int 2) S1=.ok (.tup xs) S1) (hl:(zBI xs).length<lim) (e1:zAG [] (gT [(gN 5),(gN 6)]) (zAq c) (zBI xs) [some nd,some (.lst kf),some (.lst kq),some gd,some td,v5,v6] S1=.nx ρ S2) :
  zAr c [some nd,some (.lst kf),some (.lst kq),v3,v4,v5,v6] S=.nx ρ S2:=by
 simp [zAr,ty,p1,i1,hv,i2,e1,hl]
theorem zRI {W:List Wk}{kf kq:Nat}{nd:D}{v3 v4 v5 v6:Option D}{S:zA0} (l1:zA4 S kq=some (W.map wD)):(zAk (cBin oNe (cVar 2) (cLst (zA1 [])))) [some nd,some (.lst kf),some (.lst kq),v3,v4,v5,v6] S=.ok (!eqB (W.map wD) []) (S++[.lst []]):=by
 have h:=zRv (zAd (T:=[.lst []]) l1) (zA2 S []) (qC2.mpr fun d hd=>?_) (by rfl)
 ·simp [h]
 ·obtain ⟨w,_,rfl⟩:=qC8.mp hd
  unfold wD iT
  exact zDM (n:=38) fun x hx=>by
   rcases qB9.mp hx with rfl | hx
   ·exact zDM (n:=37) (zBf (by omega) _)
   ·rw [qA9.mp hx]; exact zDM (n:=37) (zBf (by omega) _)
theorem zPZ {S:zA0}{k:Nat}{xs:List D}{x:D} (h:zA4 S k=some (xs++[x])):zBg gPop (.lst k) [] S=.ok x (S.set k (.lst xs)):=by
 rw [zDd h]
 unfold gPop
 dsimp only
 rw [show (xs++[x]).length - 1=xs.length by simp]
 simp
theorem zKK {S:zA0}{k:Nat}{xs:List D}{x:D} (h:zA4 S k=some xs) (hl:xs.length<lim):zBg zAy (.lst k) [x] S=.ok .non (S.set k (.lst (xs++[x]))):=by
 rw [zDd h]
 unfold zAy
 dsimp only
 rw [if_pos hl]
structure PI (N:Net) (kf kq:Nat) (S0:zA0) (F:List (List Int)) (W:List Wk) (S:zA0):Prop where
 kp:Kp (fun j=>j=kf∨j=kq) S0 S
 lf:zA4 S kf=some (F.map tD)
 lq:zA4 S kq=some (W.map wD)
noncomputable def pE3 (nd:D) (kf kq:Nat) (v3 v4 v5 v6:Option D):Env1:=[some nd,some (.lst kf),some (.lst kq),v3,v4,v5,v6]
noncomputable def zHM (cs:List Ct) (w:Wk) (i:Nat):List Wk:=((zAY cs).take i).filterMap (kid w)
theorem zRH (n:Nat) {N:Net} (ok:N.g) {kf kq:Nat} (hne:kf≠kq) {S0 S:zA0}{F:List (List Int)}{W:List Wk}{w:Wk} (h:PI N kf kq S0 F (W++[w]) S) (hw:WOk N.cs w) (h1:zAN w.1≠1) (hz:wts N.cs W+wt N.cs w≤65536) (v3 v4 v5 v6:Option D) :
  ∃ v3' v4' v5' v6' S',zAr (cl n) (pE3 N.d kf kq v3 v4 v5 v6) S=.nx (pE3 N.d kf kq v3' v4' v5' v6') S'∧PI N kf kq S0 F (W++kids N.cs w) S':=by
 have hc:N.cs.length≤16:=by have:=ok.c1; omega
 have hle:=hw.le
 have hln:=hw.ln
 have lq:=h.lq
 rw [qE0,qQ9] at lq
 have p1:=zPZ lq
 obtain ⟨S1,hS1⟩:∃ S1,S.set kq (.lst (W.map wD))=S1:=⟨_,rfl⟩
 rw [hS1] at p1
 have kp1:Kp (·=kq) S S1:=by rw [← hS1]; exact zBx _ _
 have lq1:zA4 S1 kq=some (W.map wD):=by rw [← hS1]; exact zAS lq
 have lf1:zA4 S1 kf=some (F.map tD):=kp1.lst h.lf hne
 have hWl:W.length≤wts N.cs W:=by
  have:∀ l:List Wk,l.length≤wts N.cs l:=by
   intro l
   induction l with
   | nil=>simp
   | cons x l ih =>
    have:1≤wt N.cs x:=qJ1
    unfold wts at *
    rw [qC1,qQ3,qD0]; omega
  exact this W
 have hkl:(kids N.cs w).length≤16:=by
  unfold kids
  exact qC5 (qO0 ..) (by rw [zBB]; exact hc)
 have hpl:∀ i,(zHM N.cs w i).length≤16:=fun i=>by
  unfold zHM
  refine qC5 (qO0 ..) ?_
  rw [qH5,zBB]; omega
 obtain ⟨ρ',S2,e1,v5',v6',rfl,kp2,l2⟩:=zAW (w:=[]) (g:=gT [(gN 5),(gN 6)]) (b:=zAq (cl n)) (items:=zBI (N.cs.map Ct.d))
  (fun i ρ S'=>∃ v5 v6,ρ=pE3 N.d kf kq (some (iT w.1)) (some (iT w.2)) v5 v6∧Kp (·=kq) S1 S'∧zA4 S' kq=some ((W++zHM N.cs w i).map wD))
  (ρ:=pE3 N.d kf kq (some (iT w.1)) (some (iT w.2)) v5 v6) (S:=S1) (fun _ _ _ _=>zAm _) ⟨v5,v6,rfl,Kp.refl _ _,by simpa [zHM] using lq1⟩
  (fun i d ρ S' hd hp=>by
   obtain ⟨v5,v6,rfl,kp,l1⟩:=hp
   rw [zAC,qB7] at hd
   obtain ⟨q,hq,rfl⟩:=qA4.mp hd
   obtain ⟨q1,q2⟩:=zKx hq
   have hm:q.2∈N.cs:=qB5 q2
   obtain ⟨ha0,hab,_⟩:=ok.c2 q.2 hm
   have ps:zHM N.cs w (i+1)=zHM N.cs w i++(kid w q).toList:=by
    unfold zHM
    rw [zGq hq,qL6]
    congr 1
   have hf:=zUF hab (zAN w.1)
   have i1:=zDc hw.ne S'
   have s1:oSl q.2.d none (some 2) S'=.ok (.tup [.int q.2.a,.int q.2.b]) S':=by unfold Ct.d; rfl
   have c0:oIx q.2.d (.int 0) S'=.ok (.int q.2.a) S':=by unfold Ct.d; simp
   have c1:oIx q.2.d (.int 1) S'=.ok (.int q.2.b) S':=by unfold Ct.d; simp
   have o1:=zBF false (zAN w.1) [q.2.a,q.2.b] S'
   refine ⟨pE3 N.d kf kq (some (iT w.1)) (some (iT w.2)) (some (.int (q.1:Nat))) (some q.2.d),S',rfl,?_⟩
   rw [ps]
   by_cases hv:zAN w.1=q.2.a∨zAN w.1=q.2.b
   ·rw [if_pos hv] at hf
    have o1':oIn false (.int (zAN w.1)) (.tup [.int q.2.a,.int q.2.b]) S'=.ok (.bl true) S':=by simpa [hv] using o1
    have oi:=zBF true (q.2.a+q.2.b - zAN w.1) w.1 S'
    by_cases hu:q.2.a+q.2.b - zAN w.1∈w.1
    ·have hk:kid w q=none:=by unfold kid; rw [hf]; simp [hu]
     rw [hk]
     exact ⟨_,S',.inl (zUc _ i1 s1 o1' c0 c1 (by simpa [hu,iT] using oi)),_,_,rfl,kp,by simpa using l1⟩
    ·have hk:kid w q=some (w.1++[q.2.a+q.2.b - zAN w.1],w.2++[(q.1:Int)]):=by unfold kid; rw [hf]; simp [hu]
     rw [hk]
     have hb:=hpl i
     have m1:=zKK (x:=wD (w.1++[q.2.a+q.2.b - zAN w.1],w.2++[(q.1:Int)])) l1 (by rw [qA2,qB2,zA9]; omega)
     refine ⟨_,_,.inl (zWT _ i1 s1 o1' c0 c1 (by simpa [hu,iT] using oi) (zEY (by omega) S') (zEY (by omega) S') (zB5 l1) m1),_,_,rfl,kp.trans (zBx _ _),?_⟩
     rw [zAS l1]
     simp
   ·rw [if_neg hv] at hf
    have hk:kid w q=none:=by unfold kid; rw [hf]
    rw [hk]
    have o1':oIn false (.int (zAN w.1)) (.tup [.int q.2.a,.int q.2.b]) S'=.ok (.bl false) S':=by simpa [hv] using o1
    exact ⟨_,S',.inl (zUd _ i1 s1 o1'),_,_,rfl,kp,by simpa using l1⟩)
 refine ⟨_,_,_,_,S2,zWS _ (zB5 lq) p1 (zDc hw.ne S1) h1 (by unfold Net.d; simp) (by rw [zAC,qA2,zBB,zA9]; omega) e1,⟨?_,?_,?_⟩⟩
 ·exact h.kp.trans ((kp1.trans kp2).mono fun j _ hj=>.inr hj)
 ·exact kp2.lst lf1 hne
 ·rw [l2]
  unfold zHM kids
  rw [qF1 (by rw [zAC,qA2]; exact qB0 _)]
theorem zRJ (n:Nat) {N:Net}{kf kq:Nat} (hne:kf≠kq) {S0 S:zA0}{F:List (List Int)}{W:List Wk}{w:Wk} (h:PI N kf kq S0 F (W++[w]) S) (hw:WOk N.cs w) (h1:zAN w.1=1) (hz:F.length≤65536) (v3 v4 v5 v6:Option D) :
  ∃ v3' v4' v5' v6' S',zAr (cl n) (pE3 N.d kf kq v3 v4 v5 v6) S=.ct (pE3 N.d kf kq v3' v4' v5' v6') S'∧PI N kf kq S0 (F++[zD1 w.2]) W S':=by
 have hle:=hw.le
 have hln:=hw.ln
 have lq:=h.lq
 rw [qE0,qQ9] at lq
 have p1:=zPZ lq
 obtain ⟨S1,hS1⟩:∃ S1,S.set kq (.lst (W.map wD))=S1:=⟨_,rfl⟩
 rw [hS1] at p1
 have kp1:Kp (·=kq) S S1:=by rw [← hS1]; exact zBx _ _
 have lq1:zA4 S1 kq=some (W.map wD):=by rw [← hS1]; exact zAS lq
 have lf1:zA4 S1 kf=some (F.map tD):=kp1.lst h.lf hne
 have i1:=zDc hw.ne S1
 rw [h1] at i1
 have f1:=zFo (ns:=w.2) (by omega) S1
 have f2:zBa [.lst S1.length] (S1++[.lst ((zD1 w.2).map D.int)])=.ok (tD (zD1 w.2)) _:=zBM (zA2 S1 _)
 have lf2:=zAd (T:=[.lst ((zD1 w.2).map D.int)]) lf1
 have m1:=zKK (x:=tD (zD1 w.2)) lf2 (by rw [qA2,zA9]; omega)
 refine ⟨_,_,_,_,_,zUe _ (zB5 lq) p1 i1 f1 f2 (zB5 lf1) m1,⟨?_,?_,?_⟩⟩
 ·exact h.kp.trans (((kp1.mono fun j _ hj=>.inr hj).trans (zA8 _ _).kp).trans ((zBx _ _).mono fun j _ hj=>.inl hj))
 ·rw [zAS lf2]; simp
 ·exact (zBx _ _).lst (zAd lq1) fun e=>hne e.symm
theorem zRG (c:CLL) {nd r:D}{v3 v4 v5 v6 w3 w4 w5 w6 w1 w2:Option D}{S S1 S2:zA0} (e1:zCK zIO (zAk (cBin oNe (cVar 2) (cLst (zA1 [])))) (zAr c) [some nd,some (.lst S.length),some (.lst (S.length+1)),w3,w4,w5,w6] (S++[.lst []]++[.lst [.tup [.tup [.int 0],.tup []]]])=.nx [some nd,some (.lst S.length),some (.lst (S.length+1)),v3,v4,v5,v6] S1)
  (f1:zAt [.lst S.length] S1=.ok r S2):zC2 c [some nd,w1,w2,w3,w4,w5,w6] S=.rt r S2:=by
 simp at e1
 simp [zC2,e1,f1]
theorem zFO (h:zD8 cl) (n:Nat) {N:Net} (ok:N.g) (S:zA0):LstR (cl (n+1) "_law_paths" [N.d] S) S ((zCm N).map tD):=by
 have hc:N.cs.length≤16:=by have:=ok.c1; omega
 have h7:In7 N.cs:=ok.in7 (by decide)
 obtain ⟨S0,h0⟩:∃ S0,S++[O.lst []]++[O.lst [D.tup [.tup [.int 0],.tup []]]]=S0:=⟨_,rfl⟩
 have p0:PI N S.length (S.length+1) S0 [] [w0] S0:=by
  rw [← h0]
  refine ⟨Kp.refl _ _,zAd (zA2 S []),?_⟩
  have:=zA2 (S++[O.lst []]) [D.tup [.tup [.int 0],.tup []]]
  simpa [w0,wD,iT] using this
 have hw0:wts N.cs [w0]≤65536:=by
  unfold wts
  simpa using zSv (w:=w0) hc
 obtain ⟨ρ',S1,e1,v3,v4,v5,v6,F,rfl,p1,pm⟩:=zGz (t:=zAk (cBin oNe (cVar 2) (cLst (zA1 [])))) (b:=zAr (cl n))
  (fun m ρ S'=>∃ v3 v4 v5 v6 F W,ρ=pE3 N.d S.length (S.length+1) v3 v4 v5 v6∧PI N S.length (S.length+1) S0 F W S'∧(∀ w∈W,WOk N.cs w)∧m=wts N.cs W∧F.length+wts N.cs W≤65536∧(F++W.flatMap (Vs N.cs)).Perm (Vs N.cs w0))
  (fun ρ S'=>∃ v3 v4 v5 v6 F,ρ=pE3 N.d S.length (S.length+1) v3 v4 v5 v6∧PI N S.length (S.length+1) S0 F [] S'∧F.Perm (Vs N.cs w0))
  (fun m ρ S' hp=>by
   obtain ⟨v3,v4,v5,v6,F,W,rfl,p,wo,rfl,hz,pm⟩:=hp
   have t:=zRI (nd:=N.d) (kf:=S.length) (v3:=v3) (v4:=v4) (v5:=v5) (v6:=v6) p.lq
   have p':PI N S.length (S.length+1) S0 F W (S'++[.lst []]):=⟨p.kp.trans (zA8 _ _).kp,zAd p.lf,zAd p.lq⟩
   by_cases hW:W=[]
   ·subst hW
    refine .inl ⟨_,?_,v3,v4,v5,v6,F,rfl,p',by simpa using pm⟩
    rw [show (!eqB (([]:List Wk).map wD) [])=false by simp [zBi.mpr]] at t
    exact t
   ·obtain ⟨W',w,rfl⟩:∃ W' w,W=W'++[w]:=⟨W.dropLast,W.getLast hW,(qJ3 hW).symm⟩
    have hw:=wo w (by simp)
    have ws:wts N.cs (W'++[w])=wts N.cs W'+wt N.cs w:=by unfold wts; simp
    have w1:1≤wt N.cs w:=qJ1
    rw [ws] at hz
    refine .inr ⟨S'++[.lst []],?_,?_⟩
    ·rw [show (!eqB ((W'++[w]).map wD) [])=true by rw [zI9 (by simp)]; rfl] at t
     exact t
    ·by_cases h1:zAN w.1=1
     ·obtain ⟨a,b,c,d,S2,e,p2⟩:=zRJ (cl:=cl) n (by omega) p' hw h1 (by omega) v3 v4 v5 v6
      refine ⟨_,S2,.inr e,wts N.cs W',by rw [ws]; omega,a,b,c,d,_,W',rfl,p2,fun x hx=>wo x (by simp [hx]),rfl,by simp; omega,?_⟩
      rw [qI5,qO6,zHg h7 hw,if_pos h1] at pm
      refine List.Perm.trans ?_ pm
      rw [qB8]
      exact (List.Perm.refl F).append qG5
     ·obtain ⟨a,b,c,d,S2,e,p2⟩:=zRH (cl:=cl) n ok (by omega) p' hw h1 (by omega) v3 v4 v5 v6
      have wk:=zJV hw
      have ws2:wts N.cs (W'++kids N.cs w)=wts N.cs W'+wts N.cs (kids N.cs w):=by unfold wts; simp
      refine ⟨_,S2,.inl e,wts N.cs (W'++kids N.cs w),by rw [ws,ws2]; omega,a,b,c,d,F,_,rfl,p2,fun x hx=>?_,rfl,by rw [ws2]; omega,?_⟩
      ·rcases qB3.mp hx with hx | hx
       ·exact wo x (by simp [hx])
       ·exact (zDB h7 hw x hx).1
      ·rw [qI5,qO6,zHg h7 hw,if_neg h1] at pm
       rw [qI5]
       exact pm)
  zIO (wts N.cs [w0]) (pE3 N.d S.length (S.length+1) none none none none) S0 (qH6 hw0 (by decide)) ⟨none,none,none,none,[],[w0],rfl,p0,fun x hx=>by rw [qA9.mp hx]; exact zLZ _,rfl,by simpa using hw0,by simp⟩
 have f1:=zEA p1.lf
 rw [← h0] at e1
 refine ⟨S1.length,S1++[.lst ((zDH F).map tD)],?_,?_,?_,?_⟩
 ·rw [h]
  exact zAc rfl (zRG _ e1 f1)
 ·refine Kp.trans ⟨?_,fun j hj _=>?_⟩ (zA8 _ _)
  ·have:=p1.kp.le; rw [← h0] at this; simp at this; omega
  ·rw [p1.kp.eq j (by rw [← h0]; simp; omega) (by omega),← h0,qB8,qA7 hj]
 ·have:=p1.kp.le; rw [← h0] at this; simp at this; omega
 ·rw [zA2]
  congr 2
  unfold zCm
  exact zEI ((zB1 F).trans pm) (zBt F)
noncomputable def cutB (cs:List Ct) (C:Int→Bool) (i:Nat):Bool:=match cs[i]? with
 | some c=>C c.a != C c.b
 | none=>false
noncomputable def cutI (cs:List Ct) (C:Int→Bool):List Int:=((List.range cs.length).filter (cutB cs C)).map fun (i:Nat)=>(i:Int)
structure Side (C:Int→Bool):Prop where
 z:C 0=true
 o:C 1=false
theorem zDz {cs:List Ct}{C:Int→Bool}{x:Int}:x∈cutI cs C↔∃ (i:Nat) (c:Ct),cs[i]?=some c∧C c.a≠C c.b∧x=(i:Int):=by
 unfold cutI
 simp only [qC8,qE4,qJ7]
 constructor
 ·rintro ⟨i,⟨hi,hb⟩,rfl⟩
  unfold cutB at hb
  rw [qA6 hi] at hb
  exact ⟨i,_,qA6 hi,by simpa using hb,rfl⟩
 ·rintro ⟨i,c,hc,hn,rfl⟩
  have hi:=(qA1.mp hc).1
  refine ⟨i,⟨hi,?_⟩,rfl⟩
  unfold cutB
  rw [hc]
  simpa using hn
theorem zNG {cs:List Ct}{C C':Int→Bool} (h:∀ x,x∈cutI cs C↔x∈cutI cs C'):cutI cs C=cutI cs C':=by
 unfold cutI
 congr 1
 apply qL4
 intro i hi
 have q:∀ D:Int→Bool,cutB cs D i=true↔(i:Int)∈cutI cs D:=fun D=>by
  rw [zDz]
  constructor
  ·intro hb
   unfold cutB at hb
   split at hb
   ·rename_i c hc; exact ⟨i,c,hc,by simpa using hb,rfl⟩
   ·cases hb
  ·rintro ⟨j,c,hc,hn,e⟩
   have:i=j:=by omega
   subst this
   unfold cutB; rw [hc]; simpa using hn
 exact zAF ((q C).trans ((h _).trans (q C').symm))
theorem zKA {cs:List Ct}{C C':Int→Bool} (h:∀ c∈cs,C c.a=C' c.a∧C c.b=C' c.b):cutI cs C=cutI cs C':=by
 apply zNG
 intro x
 rw [zDz,zDz]
 constructor
 ·rintro ⟨i,c,hc,hn,e⟩
  have:=h c (qB5 hc)
  exact ⟨i,c,hc,by rw [← this.1,← this.2]; exact hn,e⟩
 ·rintro ⟨i,c,hc,hn,e⟩
  have:=h c (qB5 hc)
  exact ⟨i,c,hc,by rw [this.1,this.2]; exact hn,e⟩
noncomputable def zAB (cs:List Ct) (l:List Int):List Ct:=((zAY cs).filter fun q=>decide ((q.1:Int)∉l)).map (·.2)
theorem zEh {cs:List Ct}{l:List Int}{c:Ct}:c∈zAB cs l↔∃ i:Nat,cs[i]?=some c∧(i:Int)∉l:=by
 unfold zAB
 simp only [qC8,qE4,decide_eq_true_eq]
 constructor
 ·rintro ⟨q,⟨hq,hn⟩,rfl⟩
  exact ⟨q.1,zDZ hq,hn⟩
 ·rintro ⟨i,hc,hn⟩
  have hi:=(qA1.mp hc).1
  refine ⟨(i,c),⟨?_,hn⟩,rfl⟩
  unfold zAY
  rw [List.mem_iff_getElem?]
  exact ⟨i,by rw [qF4]; exact ⟨by simp [hi],hc⟩⟩
theorem zEe {cs:List Ct}{l:List Int}:¬ zFE (ends (zAB cs l))↔∃ C,Side C∧∀ x∈cutI cs C,x∈l:=by
 constructor
 ·intro h
  unfold zFE at h
  simp only [Classical.not_forall] at h
  obtain ⟨C,c0,cc,n1⟩:=h
  refine ⟨fun x=>@decide (C x) (Classical.propDecidable _),⟨by simpa using c0,by simpa using n1⟩,fun x hx=>?_⟩
  obtain ⟨i,c,hc,hn,rfl⟩:=zDz.mp hx
  apply Classical.byContradiction
  intro hl
  have:=cc (c.a,c.b) (qC8.mpr ⟨c,zEh.mpr ⟨i,hc,hl⟩,rfl⟩)
  apply hn
  simp only [decide_eq_decide]
  exact this
 ·rintro ⟨C,hs,hc⟩ hj
  have:=hj (fun x=>C x=true) hs.z fun e he=>by
   obtain ⟨c,hcm,rfl⟩:=qC8.mp he
   obtain ⟨i,hci,hl⟩:=zEh.mp hcm
   have:C c.a=C c.b:=Classical.byContradiction fun hn=>hl (hc _ (zDz.mpr ⟨i,c,hci,hn,rfl⟩))
   rw [this]
  rw [hs.o] at this
  cases this
def zLP (cs:List Ct) (t:List Int):Prop:=∀ C',Side C'→(∀ x∈cutI cs C',x∈t)→cutI cs C'=t
theorem zMZ {cs:List Ct}{C:Int→Bool} (hs:Side C):(∀ e∈cutI cs C,zFE (ends (zAB cs ((cutI cs C).filter fun x=>decide (x≠e)))))↔zLP cs (cutI cs C):=by
 constructor
 ·intro h C' hs' hsub
  apply zNG
  intro x
  refine ⟨hsub x,fun hx=>Classical.byContradiction fun hn=>?_⟩
  refine zEe.mpr ⟨C',hs',fun y hy=>?_⟩ (h x hx)
  rw [qE4]
  exact ⟨hsub y hy,decide_eq_true fun e=>hn (e▸hy)⟩
 ·intro h e he
  apply Classical.byContradiction
  intro hn
  obtain ⟨C',hs',hsub⟩:=zEe.mp hn
  have:=h C' hs' fun x hx=>(qE4.mp (hsub x hx)).1
  have he':e∈cutI cs C':=by rw [this]; exact he
  have:=(qE4.mp (hsub e he')).2
  simp at this
structure zDt (cs:List Ct) (L:List (List Int)):Prop where
 nd:L.Nodup
 so:LexP L
 mem:∀ t,t∈L↔∃ C,Side C∧t=cutI cs C∧zLP cs t
theorem zDt.uniq {cs:List Ct}{L L':List (List Int)} (h:zDt cs L) (h':zDt cs L'):L=L':=by
 have p:L.Perm L':=(List.perm_ext_iff_of_nodup h.nd h'.nd).mpr fun t=>(h.mem t).trans (h'.mem t).symm
 rw [zEI p h.so]
 exact (zEI (.refl _) h'.so).symm
noncomputable def addT (ts:List (List Int)) (t:List Int):List (List Int):=if t∈ts then ts else ts++[t]
theorem zGP {ts:List (List Int)}{t x:List Int}:x∈addT ts t↔x∈ts∨x=t:=by
 unfold addT
 split
 ·rename_i h
  exact ⟨.inl,fun q=>q.elim id fun e=>e▸h⟩
 ·simp
theorem zOb {ts:List (List Int)}{t:List Int} (h:ts.Nodup):(addT ts t).Nodup:=by
 unfold addT
 split
 ·exact h
 ·rename_i hn
  rw [qF5]
  exact ⟨h,by simp,fun x hx y hy e=>hn (by simp at hy; rw [← hy,← e]; exact hx)⟩
theorem zKL (ts:List (List Int)) (t:List Int):(addT ts t).length≤ts.length+1:=by
 unfold addT; split <;> simp
noncomputable def tK (t:List Int):List Key:=t.map Sum.inl
noncomputable def dtOf (ts:List (List Int)):List (List Key × D):=ts.map fun t=>(tK t,D.bl true)
noncomputable def dO (ts:List (List Int)):O:=if ts=[] then .dk [] else .dt (dtOf ts)
theorem zSH {a b:List Int} (h:tK a=tK b):a=b:=by
 unfold tK at h
 exact (qR0 (fun x y e=>Sum.inl.inj e)).mp h
theorem zUL (ts:List (List Int)) (t:List Int):((dtOf ts).any fun kv=>decide (kv.1=tK t))=decide (t∈ts):=by
 apply zAF
 simp only [qS4,decide_eq_true_eq,dtOf,qC8]
 constructor
 ·rintro ⟨kv,⟨a,ha,rfl⟩,e⟩
  have:=zSH e
  rw [← this]; exact ha
 ·intro h; exact ⟨_,⟨t,h,rfl⟩,rfl⟩
theorem zUJ (ts:List (List Int)) (t:List Int):putD (dtOf ts) (tK t) (.bl true)=dtOf (addT ts t):=by
 unfold putD addT
 rw [zUL]
 by_cases h:t∈ts
 ·simp only [h,decide_true,if_true]
  unfold dtOf
  rw [qF7]
  apply qM6
  intro a ha
  dsimp only [Function.comp]
  split
  ·rename_i e; rfl
  ·rfl
 ·simp [h,dtOf]
theorem zGi (t:List Int):(t.map D.int).mapM zCN=some (tK t):=by
 induction t with
 | nil=>rfl
 | cons a t ih=>rw [qC1,qF6,ih]; rfl
theorem zMK {S:zA0}{m:Nat}{ts:List (List Int)} (h:S[m]?=some (dO ts)) (hl:ts.length<lim) (t:List Int):oSet (.dct m) (iT t) (.bl true) S=some (S.set m (dO (addT ts t))):=by
 unfold oSet iT
 dsimp only
 have hk:zCN (D.tup (t.map D.int))=none:=rfl
 rw [h,hk]
 have ne:addT ts t≠[]:=fun e=>by
  have:t∈addT ts t:=zGP.mpr (.inr rfl)
  rw [e] at this; cases this
 have e2:dO (addT ts t)=.dt (dtOf (addT ts t)):=by unfold dO; rw [if_neg ne]
 by_cases hn:ts=[]
 ·subst hn
  have e1:dO []=.dk []:=rfl
  rw [e1]
  show zL3 m (.tup (t.map D.int)) (.bl true) S=_
  unfold zL3
  rw [h,e1]
  dsimp only
  rw [zGi,e2]
  rfl
 ·have e1:dO ts=.dt (dtOf ts):=by unfold dO; rw [if_neg hn]
  rw [e1]
  show zL3 m (.tup (t.map D.int)) (.bl true) S=_
  unfold zL3
  rw [h,e1]
  dsimp only
  rw [zGi]
  dsimp only
  rw [if_pos (by unfold dtOf; rw [qA2]; exact hl),zUJ,e2]
theorem zK0:∀ ts:List (List Int),zKQ (dtOf ts)=some ts
 | []=>rfl
 | t::ts=>by
  have e:(tK t).mapM (fun x=>match x with | .inl n=>some n | .inr _=>none)=some t:=by
   unfold tK
   induction t with
   | nil=>rfl
   | cons a t ih=>rw [qC1,qF6,ih]; rfl
  show (match (tK t).mapM (fun x:Key=>match x with | .inl n=>some n | .inr _=>none),zKQ (dtOf ts) with | some ns,some nss=>some (ns::nss) | _,_=>none)=_
  rw [e,zK0 ts]
theorem zGp {S:zA0}{m:Nat}{ts:List (List Int)} (h:S[m]?=some (dO ts)):zAt [.dct m] S=.ok (.lst S.length) (S++[.lst ((zDH ts).map tD)]):=by
 unfold zAt
 dsimp only
 rw [h]
 by_cases hn:ts=[]
 ·subst hn; rfl
 ·have e1:dO ts=.dt (dtOf ts):=by unfold dO; rw [if_neg hn]
  rw [e1]
  dsimp only
  rw [zK0]
noncomputable def hv:Nat→List (List Int)
 | 0=>[[0]]
 | k+1=>hv k++(hv k).map (·++[(k:Int)+2])
theorem zNf:∀ k,(hv k).length=2 ^ k
 | 0=>rfl
 | k+1=>by rw [hv,qB2,qA2,zNf k,qR4]; omega
theorem zNg:∀ k,∀ h∈hv k,(0:Int)∈h∧(1:Int)∉h∧∀ x∈h,0≤x∧x<(k:Int)+2
 | 0,h,hh=>by
  simp [hv] at hh; subst hh
  exact ⟨by simp,by simp,fun x hx=>by simp at hx; omega⟩
 | k+1,h,hh=>by
  rw [hv] at hh
  rcases qB3.mp hh with hh | hh
  ·obtain ⟨a,b,c⟩:=zNg k h hh
   exact ⟨a,b,fun x hx=>by have:=c x hx; omega⟩
  ·obtain ⟨g,hg,rfl⟩:=qC8.mp hh
   obtain ⟨a,b,c⟩:=zNg k g hg
   refine ⟨qD5 _ a,fun h1=>?_,fun x hx=>?_⟩
   ·rcases qB3.mp h1 with h1 | h1
    ·exact b h1
    ·have:=qA9.mp h1; omega
   ·rcases qB3.mp hx with hx | hx
    ·have:=c x hx; omega
    ·have:=qA9.mp hx; omega
theorem zQa {C:Int→Bool} (hs:Side C):∀ k,∃ h∈hv k,∀ x,0≤x→x<(k:Int)+2→(decide (x∈h)=C x)
 | 0=>by
  refine ⟨[0],by simp [hv],fun x h0 h1=>?_⟩
  have:x=0∨x=1:=by omega
  rcases this with rfl | rfl
  ·simp [hs.z]
  ·simp [hs.o]
 | k+1=>by
  obtain ⟨h,hh,hc⟩:=zQa hs k
  have hb:=(zNg k h hh).2.2
  cases e:C ((k:Int)+2) with
  | true =>
   refine ⟨h++[(k:Int)+2],by rw [hv]; exact qC6 _ (qC8.mpr ⟨h,hh,rfl⟩),fun x h0 h1=>?_⟩
   by_cases hx:x=(k:Int)+2
   ·subst hx; simp [e]
   ·rw [← hc x h0 (by omega)]; simp [hx]
  | false =>
   refine ⟨h,by rw [hv]; exact qD5 _ hh,fun x h0 h1=>?_⟩
   by_cases hx:x=(k:Int)+2
   ·subst hx
    rw [e]
    exact decide_eq_false fun hm=>by have:=hb _ hm; omega
   ·exact hc x h0 (by omega)
noncomputable def bitB (m:Nat) (p:Int):Bool:=decide (Builtin.bitAnd ((m:Int) / 2 ^ (p - 2).toNat) 1=1)
theorem zPL:∀ (n:_root_.Fin 6) (b0 b1 b2 b3 b4:Bool),((List.range (2 ^ n.val)).any fun m=>(decide (n.val≤0)||bitB m 2 == b0)&&((decide (n.val≤1)||bitB m 3 == b1)&&((decide (n.val≤2)||bitB m 4 == b2)&&((decide (n.val≤3)||bitB m 5 == b3)&&(decide (n.val≤4)||bitB m 6 == b4)))))=true:=by
 decide +kernel
theorem zPM (n:_root_.Fin 6) (b0 b1 b2 b3 b4:Bool):∃ m:Nat,m<2 ^ n.val∧(0<n.val→bitB m 2=b0)∧(1<n.val→bitB m 3=b1)∧(2<n.val→bitB m 4=b2)∧(3<n.val→bitB m 5=b3)∧(4<n.val→bitB m 6=b4):=by
 obtain ⟨m,hm,h⟩:=qS4.mp (zPL n b0 b1 b2 b3 b4)
 simp only [qC9,qF8,decide_eq_true_eq,beq_iff_eq] at h
 obtain ⟨h0,h1,h2,h3,h4⟩:=h
 exact ⟨m,qJ7.mp hm,fun q=>h0.resolve_left (by omega),fun q=>h1.resolve_left (by omega),fun q=>h2.resolve_left (by omega),fun q=>h3.resolve_left (by omega),fun q=>h4.resolve_left (by omega)⟩
noncomputable def zDu (pl:Int) (m:Nat):List Int:=0::((List.range (pl - 2).toNat).map fun (k:Nat)=>(2:Int)+k).filter (bitB m)
theorem zES {pl:Int}{m:Nat}{x:Int}:x∈zDu pl m↔x=0∨(2≤x∧x<pl∧bitB m x=true):=by
 unfold zDu
 simp only [qB9,qE4,qC8,qJ7]
 constructor
 ·rintro (h | ⟨⟨k,hk,rfl⟩,hb⟩)
  ·exact .inl h
  ·exact .inr ⟨by omega,by omega,hb⟩
 ·rintro (h | ⟨h1,h2,hb⟩)
  ·exact .inl h
  ·exact .inr ⟨⟨(x - 2).toNat,by omega,by omega⟩,hb⟩
theorem zEb (pl:Int) (m:Nat):Side fun x=>decide (x∈zDu pl m) :=
 ⟨decide_eq_true (zES.mpr (.inl rfl)),decide_eq_false fun h=>by rcases zES.mp h with h | h <;> omega⟩
theorem zMg {C:Int→Bool} (hs:Side C) {pl:Int} (h2:2≤pl) (h7:pl≤7):∃ m:Nat,m<2 ^ (pl - 2).toNat∧∀ x,0≤x→x<pl→decide (x∈zDu pl m)=C x:=by
 obtain ⟨m,hm,q0,q1,q2,q3,q4⟩:=zPM ⟨(pl - 2).toNat,by omega⟩ (C 2) (C 3) (C 4) (C 5) (C 6)
 dsimp only at hm q0 q1 q2 q3 q4
 refine ⟨m,hm,fun x h0 h1=>?_⟩
 have hc:x=0∨x=1∨x=2∨x=3∨x=4∨x=5∨x=6:=by omega
 have g:∀ y:Int,2≤y→y<pl→bitB m y=C y→decide (y∈zDu pl m)=C y:=fun y a b e=>by
  rw [← e]
  apply zAF
  rw [decide_eq_true_iff,zES]
  constructor
  ·rintro (h | ⟨_,_,h⟩)
   ·omega
   ·exact h
  ·intro h; exact .inr ⟨a,b,h⟩
 rcases hc with rfl | rfl | rfl | rfl | rfl | rfl | rfl
 ·rw [hs.z]; exact (zEb pl m).z
 ·rw [hs.o]; exact (zEb pl m).o
 ·exact g _ (by omega) h1 (q0 (by omega))
 ·exact g _ (by omega) h1 (q1 (by omega))
 ·exact g _ (by omega) h1 (q2 (by omega))
 ·exact g _ (by omega) h1 (q3 (by omega))
 ·exact g _ (by omega) h1 (q4 (by omega))
theorem zMN {S:zA0}{k:Nat}{l:List Int} (h:zA4 S k=some (l.map D.int)) (neg:Bool) (a:Int):oIn neg (.int a) (.lst k) S=.ok (.bl (if neg then !decide (a∈l) else decide (a∈l))) S:=by
 rw [← zBF neg a l S]
 have e:zHC S (.lst k)=some (l.map D.int):=h
 unfold oIn
 dsimp only
 rw [e]
 rfl
theorem ez {P:Ct→Bool}:∀ (l:List Ct) (s:Nat),(((qP8 s l.length).zip l).filter fun q=>P q.2).map (·.1)=(qP8 s l.length).filter (fun i=>match l[i - s]? with | some c=>P c | none=>false)
 | [],s=>rfl
 | c::l,s=>by
  rw [qD0,List.range'_succ,qK4,qF2,qF2]
  have t:((qP8 (s+1) l.length).filter fun i=>match (c::l)[i - s]? with | some c=>P c | none=>false)=(qP8 (s+1) l.length).filter fun i=>match l[i - (s+1)]? with | some c=>P c | none=>false:=by
   apply qL4
   intro i hi
   have:=(List.mem_range'_1.mp hi).1
   rw [show i - s=(i - (s+1))+1 by omega,qD6]
  have ih:=ez (P:=P) l (s+1)
  simp only [qK1,qO3]
  cases h:P c with
  | true=>simp only [if_true,qC1]; rw [ih,t]
  | false=>simp only [qD9,if_false]; rw [ih,t]
theorem zKB (cs:List Ct) (C:Int→Bool):((zAY cs).filter fun q=>C q.2.a != C q.2.b).map (fun q=>D.int (q.1:Nat))=(cutI cs C).map D.int:=by
 have:=ez (P:=fun c=>C c.a != C c.b) cs 0
 rw [← List.range_eq_range'] at this
 unfold cutI
 rw [qF7]
 have e:((List.range cs.length).filter (cutB cs C))=((zAY cs).filter fun q=>C q.2.a != C q.2.b).map (·.1):=by
  unfold zAY; rw [this]; rfl
 rw [e,qF7]; rfl
structure HBr (cl:Nat→CLL):Prop where
 hw:zAQ cl
 oo:zFF cl
 ch:zEF cl
 wi:zEq cl
 jb:zDs cl
 ib:zIM cl
 ab:zFH cl
 jo:zHi cl
 pf:zAU cl
 wh:zDF cl
theorem zS3 (c:CLL) {pd:D}{k k2:Nat}{p:Int}{L Z:List D}{S S2:zA0} (l1:zA4 S k=some L) (hl:L.length<lim) (e1:zAo [(k,L)] .one (fun _=>ret true) (zAv c) [none,some (.int p)] L S=.ok Z S) (a1:oAdd (.lst k) (.lst S.length) (S++[.lst Z])=.ok (.lst k2) S2) :
  zAf c [some pd,some (.lst k),some (.int p)] S=.nx [some pd,some (.lst k2),some (.int p)] S2:=by
 simp [zAf,l1,e1,a1,hl]
theorem zS2 (c:CLL) {pl:Int}{m:Nat}{w1 w2:Option D}{ρ:Env1}{r:D}{S S1:zA0} (h1:-4611686018427387904≤pl) (h2:pl<4611686018427387904) (hm:(pl - 2).toNat=m) (hl:(upD 2 m).length<lim) (e1:zAG [] (gN 2) (zAf c) (upD 2 m) [some (.int pl),some (.lst S.length),w2] (S++[.lst [.tup [.int 0]]])=.nx ρ S1) (hr:ρ[1]?=some (some r)) :
  zAj c [some (.int pl),w1,w2] S=.rt r S1:=by
 simp [zAj,h1,h2,hm,e1,hr,hl]
theorem zJj (h:zAQ cl) (n:Nat) {pl:Int} (h2:2≤pl) (h7:pl≤7) (S:zA0):LstR (cl (n+1) "halves_with_start" [.int pl] S) S ((hv (pl - 2).toNat).map tD):=by
 have hm5:(pl - 2).toNat≤5:=by omega
 obtain ⟨m,hm⟩:∃ m,(pl - 2).toNat=m:=⟨_,rfl⟩
 rw [hm] at hm5 ⊢
 have l0:zA4 (S++[O.lst [D.tup [.int 0]]]) S.length=some ((hv 0).map tD):=zA2 S _
 obtain ⟨ρ',S1,e1,k,v2,rfl,x1,le1,l1⟩:=zAW (w:=[]) (g:=gN 2) (b:=zAf (cl n)) (items:=upD 2 m)
  (fun i ρ S'=>∃ k v2,ρ=[some (.int pl),some (.lst k),v2]∧Ex S S'∧S.length≤k∧zA4 S' k=some ((hv i).map tD))
  (ρ:=[some (.int pl),some (.lst S.length),none]) (S:=S++[O.lst [D.tup [.int 0]]]) (fun _ _ _ _=>zAm _) ⟨S.length,none,rfl,zA8 _ _,qB0 _,l0⟩
  (fun i d ρ S' hd hp=>by
   obtain ⟨k,v2,rfl,x1,le1,l1⟩:=hp
   unfold upD at hd
   rw [qB7] at hd
   obtain ⟨j,hj,rfl⟩:=qA4.mp hd
   have hji:j=i∧i<m:=by
    obtain ⟨a,b⟩:=qA1.mp hj
    simp at a b
    exact ⟨b.symm,a⟩
   obtain ⟨rfl,him⟩:=hji
   have hlen:(hv j).length≤32:=by
    rw [zNf]
    exact qC5 (qE9 (by omega) (show j≤5 by omega)) (by decide)
   have e1:zAo [(k,(hv j).map tD)] .one (fun _=>ret true) (zAv (cl n)) [none,some (.int (2+(j:Nat)))] ((hv j).map tD) S'=.ok ((hv j).map fun g=>tD (g++[(j:Int)+2])) S' :=
    zEo tD (zBD l1) _ (hv j) fun g hg=>⟨[some (tD g),some (.int (2+(j:Nat)))],rfl,by
     have hgl:g.length≤100:=by
      have:∀ k,∀ h∈hv k,h.length≤k+1:=by
       intro k
       induction k with
       | zero=>intro h hh; simp [hv] at hh; subst hh; simp
       | succ k ih =>
        intro h hh
        rw [hv] at hh
        rcases qB3.mp hh with hh | hh
        ·have:=ih h hh; omega
        ·obtain ⟨g,hg,rfl⟩:=qC8.mp hh
         have:=ih g hg
         simp; omega
      have:=this j g hg
      omega
     have a:=zEY (l:=g) (x:=(j:Int)+2) hgl S'
     rw [Int.add_comm (j:Int) 2] at a
     have a':oAdd (tD g) (.tup [.int (2+(j:Nat))]) S'=.ok (tD (g++[2+(j:Int)])) S':=a
     rw [Int.add_comm (j:Int) 2]
     simp [zAv,a']⟩
   have a1:=zEK (zAd (T:=[.lst ((hv j).map fun g=>tD (g++[(j:Int)+2]))]) l1) (zA2 S' ((hv j).map fun g=>tD (g++[(j:Int)+2]))) (by rw [qA2,qA2,zA9]; omega)
   refine ⟨[some (.int pl),some (.lst k),some (.int (2+(j:Nat)))],S',rfl,_,_,.inl (zS3 _ l1 (by rw [qA2,zA9]; omega) e1 a1),_,_,rfl,(x1.trans (zA8 _ _)).trans (zA8 _ _),?_,?_⟩
   ·have:=x1.le; simp; omega
   ·rw [zA2,hv,qE0,qF7]; rfl)
 have hu:(upD 2 m).length=m:=by simp [upD]
 rw [hu] at l1
 refine ⟨k,S1,?_,x1,le1,l1⟩
 rw [h]
 exact zAc rfl (zS2 _ (by omega) (by omega) hm (by rw [hu,zA9]; omega) e1 rfl)
theorem zU1 (c:CLL) {nd hd:D}{xs Z:List D}{S:zA0} (i1:oIx nd (.int 2) S=.ok (.tup xs) S) (hl:(zBI xs).length<lim) (e1:zAo [] (.many 2) (zDN c) (zDO c) [none,none,some hd] (zBI xs) S=.ok Z S):zE5 c [some nd,some hd] S=.rt (.tup Z) (S++[.lst Z]):=by
 have f:=zBM (zA2 S Z)
 simp [zE5,i1,hl,e1,f]
theorem zLv {N:Net} (S:zA0):oIx N.d (.int 2) S=.ok (.tup (N.cs.map Ct.d)) S:=by unfold Net.d; simp
theorem zIZ (h:zFF cl) (n:Nat) {N:Net} (hc:N.cs.length≤16) (g:List Int) (S:zA0):Spc (cl (n+1) "out_of" [N.d,tD g] S) (tD (cutI N.cs fun x=>decide (x∈g))) S:=by
 have e1:zAo [] (.many 2) (zDN (cl n)) (zDO (cl n)) [none,none,some (tD g)] ((zAY N.cs).map fun q=>.tup [.int (q.1:Nat),q.2.d]) S=.ok (((zAY N.cs).filter fun q=>decide (q.2.a∈g) != decide (q.2.b∈g)).map fun q=>D.int (q.1:Nat)) S:=by
  refine zAT (fun q:Nat × Ct=>.tup [.int (q.1:Nat),q.2.d]) (zAm S) _ _ _ fun q hq=>⟨_,rfl,?_,fun _=>?_⟩
  ·have o1:oIn false (.int q.2.a) (tD g) S=.ok (.bl (decide (q.2.a∈g))) S:=zBF false q.2.a g S
   have o2:oIn false (.int q.2.b) (tD g) S=.ok (.bl (decide (q.2.b∈g))) S:=zBF false q.2.b g S
   simp [zDN,zBd,Ct.d,o1,o2]
  ·simp [zDO,zBd]
 rw [zKB N.cs fun x=>decide (x∈g)] at e1
 refine ⟨S++[.lst ((cutI N.cs fun x=>decide (x∈g)).map D.int)],?_,zA8 S _⟩
 rw [h]
 exact zAc rfl (zU1 _ (zLv S) (by rw [zAC,qA2,zBB,zA9]; omega) (by rw [zAC]; exact e1))
theorem zRU (c:CLL) {nd sd r:D}{xs Z:List D}{S S1:zA0} (i1:oIx nd (.int 2) S=.ok (.tup xs) S) (hl:(zBI xs).length<lim) (e1:zAo [] (.many 2) (zBo c) (zBp c) [none,none,some sd] (zBI xs) S=.ok Z S) (e2:c "joins" [.lst S.length] (S++[.lst Z])=.ok r S1):zBc c [some nd,some sd] S=.rt r S1:=by
 simp [zBc,i1,hl,e1,e2]
theorem zFA (H:HBr cl) (n:Nat) {N:Net} (ok:N.g) {sd:D}{l:List Int}{S:zA0} (hin:∀ x:Int,oIn true (.int x) sd S=.ok (.bl (!decide (x∈l))) S):Spc (cl (n+3) "join_beside" [N.d,sd] S) (.bl (jB (ends (zAB N.cs l)))) S:=by
 have hc:N.cs.length≤16:=by have:=ok.c1; omega
 have e1:zAo [] (.many 2) (zBo (cl (n+2))) (zBp (cl (n+2))) [none,none,some sd] ((zAY N.cs).map fun q=>.tup [.int (q.1:Nat),q.2.d]) S=.ok (((zAY N.cs).filter fun q=>!decide ((q.1:Int)∈l)).map fun q=>q.2.d) S:=by
  refine zAT (fun q:Nat × Ct=>.tup [.int (q.1:Nat),q.2.d]) (zAm S) _ _ _ fun q hq=>⟨_,rfl,?_,fun _=>?_⟩
  ·have:=hin (q.1:Nat)
   simp [zBo,zBd,this]
  ·simp [zBp,zBd]
 have eZ:((zAY N.cs).filter fun q=>!decide ((q.1:Int)∈l)).map (fun q=>q.2.d)=(zAB N.cs l).map Ct.d:=by
  unfold zAB
  rw [qF7]
  congr 1
  apply qL4
  intro q _
  simp
 rw [eZ] at e1
 have hb:(zAB N.cs l).length≤100:=by
  unfold zAB
  rw [qA2]
  refine qC5 (qD8 ..) ?_
  rw [zBB]; omega
 have h7:In7 (zAB N.cs l):=fun c hc'=>by
  obtain ⟨i,hi,_⟩:=zEh.mp hc'
  exact ok.in7 (by decide) c (qB5 hi)
 obtain ⟨S2,e2,x2⟩:=zL9 H.jo H.pf n (zAB N.cs l) hb h7 (zA2 S ((zAB N.cs l).map Ct.d))
 refine ⟨S2,?_,(zA8 S _).trans x2⟩
 rw [show n+3=(n+2)+1 from rfl,H.jb]
 exact zAc rfl (zRU _ (zLv S) (by rw [zAC,qA2,zBB,zA9]; omega) (by rw [zAC]; exact e1) e2)
theorem zHm (h:zEq cl) (n:Nat) {t:List Int} (ht:t.length≤100) (e:Int) (S:zA0):cl (n+1) "without" [tD t,.int e] S=.ok (.lst S.length) (S++[.lst ((t.filter fun x=>decide (x≠e)).map D.int)]):=by
 have e1:zAo [] .one (zE8 (cl n)) (zE9 (cl n)) [none,some (.int e)] (t.map D.int) S=.ok ((t.filter fun x=>decide (x≠e)).map D.int) S:=by
  refine zAT D.int (zAm S) _ _ _ fun x hx=>⟨_,rfl,?_,fun _=>?_⟩
  ·simp [zE8,zBd]
  ·simp [zE9,zBd]
 rw [h]
 refine zAc rfl ?_
 have hl:(t.map D.int).length<lim:=by rw [qA2,zA9]; omega
 have hl':t.length<lim:=by rw [zA9]; omega
 simp [zE4,zAu,tD,e1,hl,hl']
noncomputable def lB (cs:List Ct) (t:List Int):Bool:=@decide (zLP cs t) (Classical.propDecidable _)
theorem zN1 {cs:List Ct}{t:List Int}:lB cs t=true↔zLP cs t:=@decide_eq_true_iff _ (Classical.propDecidable _)
theorem zIw {α:Type} (f:α→Bool):∀ l:List α,zD4 (l.map fun d=>D.bl (f d))=some (l.map f)
 | []=>rfl
 | a::l=>by
  rw [qC1]
  show (zD4 (l.map fun d=>D.bl (f d))).map _=_
  rw [zIw f l]; rfl
theorem zKu {α:Type}{S:zA0}{n:Nat} (g:List Bool→Bool) (f:α→Bool) (l:List α) (h:zA4 S n=some (l.map fun d=>D.bl (f d))):zCL g [.lst n] S=.ok (.bl (g (l.map f))) S:=by
 unfold zCL
 dsimp only
 rw [h]
 show (match zD4 (l.map fun d=>D.bl (f d)) with | some bs=>R.ok (D.bl (g bs)) S | none=>.bad)=_
 rw [zIw]
theorem zH1 {cs:List Ct}{C:Int→Bool}:(cutI cs C).length≤cs.length:=by
 unfold cutI
 rw [qA2]
 exact qC5 (qD8 ..) (by simp)
theorem zNH {cs:List Ct}{C:Int→Bool}:(((List.range cs.length).map fun (i:Nat)=>(i:Int)).filter fun x=>decide (x∈cutI cs C))=cutI cs C:=by
 conv=>rhs; unfold cutI
 rw [List.filter_map]
 congr 1
 apply qL4
 intro i hi
 apply zAF
 simp only [Function.comp,decide_eq_true_eq]
 unfold cutI
 constructor
 ·intro h
  obtain ⟨j,hj,e⟩:=qC8.mp h
  have:i=j:=by omega
  subst this
  exact (qE4.mp hj).2
 ·intro h
  exact qC8.mpr ⟨i,qE4.mpr ⟨hi,h⟩,rfl⟩
theorem zUu (c:CLL) {nd:D}{ts xs Z bs:List D}{m:Nat}{z:Int}{S S1 S2 S3:zA0} (l0:ts.length<lim) (e1:zAo [] .one (fun _=>ret true) (zCk c) [none] ts S=.ok bs S) (h1:S++[.lst bs]=S1) (f1:zCL (fun bs=>bs.all id) [.lst S.length] S1=.ok (.bl true) S1)
  (h2:S1++[.lst ts]=S2) (i1:∀ S,oIx nd (.int 2) S=.ok (.tup xs) S) (fl:∀ S,fLen [.tup xs] S=.ok (.int z) S) (hz:z.toNat=m) (m0:-4611686018427387904≤z) (m1:z<4611686018427387904) (hl:(upD 0 m).length<lim)
  (e2:zAo [] .one (zBy c) (zBz c) [none,some (.tup ts)] (upD 0 m) S2=.ok Z S2) (h3:S2++[.lst Z]=S3) (q:oEq (.lst S1.length) (.lst S2.length) S3=.ok (.bl true) S3) :
  zC4 c [some nd,some (.tup ts)] S=.rt (.bl true) S3:=by
 simp [zC4,l0,e1,h1,f1,h2,i1,fl,hz,m0,m1,hl,e2,h3,q]
theorem zJE (H:HBr cl) (n:Nat) {N:Net} (hc:N.cs.length≤16) (C:Int→Bool) (S:zA0):Spc (cl (n+2) "is_choice" [N.d,tD (cutI N.cs C)] S) (.bl true) S:=by
 have hl:=zH1 (cs:=N.cs) (C:=C)
 obtain ⟨t,ht⟩:∃ t,cutI N.cs C=t:=⟨_,rfl⟩
 have hag:=zNH (cs:=N.cs) (C:=C)
 rw [ht] at hl hag ⊢
 have e1:zAo [] .one (fun _=>ret true) (zCk (cl (n+1))) [none] (t.map D.int) S=.ok (t.map fun _=>D.bl true) S:=by
  refine zEo D.int (zAm S) _ t fun x hx=>⟨_,rfl,?_⟩
  have:=zGV H.wh n (d:=.int x) rfl S
  simp [zCk,zBd,this,zGj]
 have f1:=zKu (S:=S++[.lst (t.map fun _=>D.bl true)]) (n:=S.length) (fun bs=>bs.all id) (fun _:Int=>true) t (zA2 S _)
 rw [show (t.map fun _=>true).all id=true by simp] at f1
 have e2:∀ S:zA0,zAo [] .one (zBy (cl (n+1))) (zBz (cl (n+1))) [none,some (.tup (t.map D.int))] (upD 0 N.cs.length) S=.ok (t.map D.int) S:=fun S=>by
  have eu:upD 0 N.cs.length=((List.range N.cs.length).map fun (i:Nat)=>(i:Int)).map D.int:=by
   unfold upD; rw [qF7]; apply qM6; intro k _; simp
  have e:zAo [] .one (zBy (cl (n+1))) (zBz (cl (n+1))) [none,some (.tup (t.map D.int))] (((List.range N.cs.length).map fun (i:Nat)=>(i:Int)).map D.int) S=.ok ((((List.range N.cs.length).map fun (i:Nat)=>(i:Int)).filter fun x=>decide (x∈t)).map D.int) S:=by
   refine zAT D.int (zAm S) _ _ _ fun x hx=>⟨_,rfl,?_,fun _=>?_⟩
   ·have:=zBF false x t S
    simp [zBy,zBd,this]
   ·simp [zBz,zBd]
  rw [eu,e,hag]
 obtain ⟨S1,h1⟩:∃ S1,S++[O.lst (t.map fun _=>D.bl true)]=S1:=⟨_,rfl⟩
 obtain ⟨S2,h2⟩:∃ S2,S1++[O.lst (t.map D.int)]=S2:=⟨_,rfl⟩
 obtain ⟨S3,h3⟩:∃ S3,S2++[O.lst (t.map D.int)]=S3:=⟨_,rfl⟩
 have la:zA4 S2 S1.length=some (t.map D.int):=by rw [← h2]; exact zA2 _ _
 have la3:zA4 S3 S1.length=some (t.map D.int):=by rw [← h3]; exact zAd la
 have lb3:zA4 S3 S2.length=some (t.map D.int):=by rw [← h3]; exact zA2 _ _
 have q:=zGN la3 lb3 (qC2.mpr (zBf (by omega) t)) (qC2.mpr (zBf (by omega) t))
 rw [show eqB (t.map D.int) (t.map D.int)=true from zBi.mpr rfl] at q
 rw [h1] at f1
 have lt16:t.length<lim:=by rw [zA9]; omega
 have x:Ex S S3:=by
  rw [← h3,← h2,← h1]
  exact ((zA8 S _).trans (zA8 _ _)).trans (zA8 _ _)
 refine ⟨S3,?_,x⟩
 rw [show n+2=(n+1)+1 from rfl,H.ch]
 obtain ⟨z,hz⟩:∃ z:Int,(N.cs.length:Int)=z:=⟨_,rfl⟩
 exact zAc rfl (zUu (ts:=t.map D.int) (Z:=t.map D.int) (xs:=N.cs.map Ct.d) (m:=N.cs.length) (z:=z) _ (by rw [qA2]; exact lt16) e1 h1 f1 h2 (fun S=>zLv S) (fun S=>by rw [← hz]; show R.ok (D.int ((N.cs.map Ct.d).length:Nat)) S=_; rw [qA2]) (by omega) (by omega) (by omega) (by rw [show (upD 0 N.cs.length).length=N.cs.length by simp [upD],zA9]; omega) (e2 _) h3 q)
theorem zUv (c:CLL) {nd:D}{ts Z:List D}{b:Bool}{S S1 S2 S3:zA0} (e1:c "is_choice" [nd,.tup ts] S=.ok (.bl true) S1) (e2:c "join_beside" [nd,.tup ts] S1=.ok (.bl false) S2) (hl:ts.length<lim) (e3:zAo [] .one (fun _=>ret true) (zD2 c) [none,some nd,some (.tup ts)] ts S2=.ok Z S3)
  (f1:zCL (fun bs=>bs.all id) [.lst S3.length] (S3++[.lst Z])=.ok (.bl b) (S3++[.lst Z])):zE6 c [some nd,some (.tup ts)] S=.rt (.bl b) (S3++[.lst Z]):=by
 simp [zE6,e1,e2,hl,e3,f1]
theorem zS1 (c:CLL) {nd td r:D}{e:Int}{k:Nat}{S S1 S2:zA0} (w:c "without" [td,.int e] S=.ok (.lst k) S1) (e4:c "join_beside" [nd,.lst k] S1=.ok r S2):zD2 c [some (.int e),some nd,some td] S=.ok r S2:=by
 simp [zD2,w,e4]
theorem zLb (H:HBr cl) (n:Nat) {N:Net} (ok:N.g) {C:Int→Bool} (hs:Side C) (S:zA0):Spc (cl (n+4) "is_bar" [N.d,tD (cutI N.cs C)] S) (.bl (lB N.cs (cutI N.cs C))) S:=by
 have hc:N.cs.length≤16:=by have:=ok.c1; omega
 have hl:=zH1 (cs:=N.cs) (C:=C)
 obtain ⟨S1,e1,x1⟩:=zJE H (n+1) hc C S
 obtain ⟨S2,e2,x2⟩:=zFA H n ok (sd:=tD (cutI N.cs C)) (l:=cutI N.cs C) (S:=S1) fun x=>zBF true x _ S1
 have j0:jB (ends (zAB N.cs (cutI N.cs C)))=false:=by
  cases q:jB (ends (zAB N.cs (cutI N.cs C))) with
  | false=>rfl
  | true=>exact absurd (zKo.mp q) (zEe.mpr ⟨C,hs,fun x hx=>hx⟩)
 rw [j0] at e2
 have li:=zMZ (cs:=N.cs) hs
 obtain ⟨t,ht⟩:∃ t,cutI N.cs C=t:=⟨_,rfl⟩
 rw [ht] at e1 e2 hl li ⊢
 obtain ⟨S3,e3,x3⟩:=zNL D.int (w:=[]) (t:=.one) (c:=zD2 (cl (n+3))) (ρ0:=[none,some N.d,some (.tup (t.map D.int))]) (fun S'=>Ex S2 S') (fun _ _=>zAm _)
  (fun e=>D.bl (jB (ends (zAB N.cs (t.filter fun x=>decide (x≠e)))))) t (S:=S2) (Kp.refl _ _) (fun e he S' hx=>by
   refine ⟨[some (.int e),some N.d,some (.tup (t.map D.int))],rfl,?_⟩
   have w:=zHm H.wi (n+2) (t:=t) (by omega) e S'
   obtain ⟨S4,e4,x4⟩:=zFA H n ok (sd:=.lst S'.length) (l:=t.filter fun x=>decide (x≠e)) (S:=S'++[.lst ((t.filter fun x=>decide (x≠e)).map D.int)]) fun x=>zMN (zA2 S' _) true x
   refine ⟨S4,?_,(hx.trans (zA8 _ _)).trans x4⟩
   exact zS1 _ w e4)
 have f1:=zKu (S:=S3++[.lst (t.map fun e=>D.bl (jB (ends (zAB N.cs (t.filter fun x=>decide (x≠e))))))]) (n:=S3.length) (fun bs=>bs.all id) (fun e:Int=>jB (ends (zAB N.cs (t.filter fun x=>decide (x≠e))))) t (zA2 S3 _)
 have eb:(t.map fun e:Int=>jB (ends (zAB N.cs (t.filter fun x=>decide (x≠e))))).all id=lB N.cs t:=by
  apply zAF
  rw [zN1,← li]
  simp only [qK9,qC2,Function.comp,id,zKo]
 rw [eb] at f1
 refine ⟨S3++[.lst (t.map fun e=>D.bl (jB (ends (zAB N.cs (t.filter fun x=>decide (x≠e))))))],?_,((x1.trans x2).trans x3).trans (zA8 _ _)⟩
 rw [show n+4=(n+3)+1 from rfl,H.ib]
 exact zAc rfl (zUv _ e1 e2 (by rw [qA2,zA9]; omega) e3 f1)
theorem zXl (c:CLL) {nd hd td:D}{m:Nat}{w:Option D}{S S1 S2:zA0} (e1:c "out_of" [nd,hd] S=.ok td S1) (e2:c "is_bar" [nd,td] S1=.ok (.bl false) S2):zB0 c [some nd,some (.dct m),some hd,w] S=.nx [some nd,some (.dct m),some hd,some td] S2:=by
 simp [zB0,e1,e2]
theorem zV9 (c:CLL) {nd hd td:D}{m:Nat}{w:Option D}{S S1 S2 S3:zA0} (e1:c "out_of" [nd,hd] S=.ok td S1) (e2:c "is_bar" [nd,td] S1=.ok (.bl true) S2) (s1:oSet (.dct m) td (.bl true) S2=some S3):zB0 c [some nd,some (.dct m),some hd,w] S=.nx [some nd,some (.dct m),some hd,some td] S3:=by
 simp [zB0,e1,e2,s1]
theorem zSm (c:CLL) {nd r:D}{pl:Int}{k:Nat}{L:List D}{v2 v3 w1 w2 w3:Option D}{S S1 S2 S3:zA0} (i1:∀ S,oIx nd (.int 1) S=.ok (.int pl) S) (e1:c "halves_with_start" [.int pl] (S++[.dk []])=.ok (.lst k) S1) (l1:zA4 S1 k=some L) (hl:L.length<lim)
  (e2:zAG [(k,L)] (gN 2) (zB0 c) L [some nd,some (.dct S.length),w2,w3] S1=.nx [some nd,some (.dct S.length),v2,v3] S2) (f1:zAt [.dct S.length] S2=.ok r S3):zCD c [some nd,w1,w2,w3] S=.rt r S3:=by
 simp [zCD,i1,e1,l1,hl,e2,f1]
theorem zHe (H:HBr cl) (n:Nat) {N:Net} (ok:N.g) (S:zA0):∃ L,zDt N.cs L∧L.length≤32∧LstR (cl (n+5) "all_bars" [N.d] S) S (L.map tD):=by
 have hc:N.cs.length≤16:=by have:=ok.c1; omega
 have p1:=ok.p1
 have p2:=ok.p2
 obtain ⟨m,hm⟩:∃ m,(N.pl - 2).toNat=m:=⟨_,rfl⟩
 obtain ⟨k,S1,e1,x1,le1,l1⟩:=zJj H.hw (n+3) p1 p2 (S++[.dk []])
 rw [hm] at l1
 have hlen:(hv m).length≤32:=by
  rw [zNf]
  exact qC5 (qE9 (by omega) (show m≤5 by omega)) (by decide)
 have kne:k≠S.length:=by simp at le1; omega
 have d1:S1[S.length]?=some (dO []):=x1.at (by rw [qA0 (qB0 _)]; simp [dO]) fun z=>z
 obtain ⟨ρ',S2,e2,v2,v3,ts,rfl,kp,d2,nd2,ln2,mem2⟩:=zAW (w:=[(k,(hv m).map tD)]) (g:=gN 2) (b:=zB0 (cl (n+4))) (items:=(hv m).map tD)
  (fun i ρ S'=>∃ v2 v3 ts,ρ=[some N.d,some (.dct S.length),v2,v3]∧Kp (·=S.length) S1 S'∧S'[S.length]?=some (dO ts)∧ts.Nodup∧ts.length≤i∧∀ t,t∈ts↔∃ g∈(hv m).take i,t=cutI N.cs (fun x=>decide (x∈g))∧zLP N.cs t)
  (ρ:=[some N.d,some (.dct S.length),none,none]) (S:=S1) (fun i ρ S' hp=>by obtain ⟨_,_,_,_,kp,_⟩:=hp; exact zBD (kp.lst l1 kne)) ⟨none,none,[],rfl,Kp.refl _ _,d1,qN1,qB0 _,fun t=>by simp⟩
  (fun i d ρ S' hd hp=>by
   obtain ⟨v2,v3,ts,rfl,kp,dd,nd,ln,mem⟩:=hp
   rw [qB7] at hd
   obtain ⟨g,hg,rfl⟩:=qA4.mp hd
   have gi:=zNg m g (qB5 hg)
   have him:i<32:=by have:=(qA1.mp hg).1; omega
   have hs:Side fun x=>decide (x∈g):=⟨decide_eq_true gi.1,decide_eq_false gi.2.1⟩
   obtain ⟨S3,e3,x3⟩:=zIZ H.oo (n+3) hc g S'
   obtain ⟨S4,e4,x4⟩:=zLb H n ok hs S3
   have tk:(hv m).take (i+1)=(hv m).take i++[g]:=by rw [qR5,hg]; rfl
   have d4:S4[S.length]?=some (dO ts):=x4.at (x3.at dd fun z=>z) fun z=>z
   refine ⟨[some N.d,some (.dct S.length),some (tD g),v3],S',rfl,?_⟩
   rw [tk]
   cases hb:lB N.cs (cutI N.cs fun x=>decide (x∈g)) with
   | false =>
    rw [hb] at e4
    have nl:¬ zLP N.cs (cutI N.cs fun x=>decide (x∈g)):=fun h=>by rw [zN1.mpr h] at hb; cases hb
    refine ⟨_,S4,.inl (zXl _ e3 e4),_,_,ts,rfl,kp.trans (x3.trans x4).kp,d4,nd,by omega,fun t=>?_⟩
    rw [mem]
    constructor
    ·rintro ⟨h,hh,q⟩; exact ⟨h,qD5 _ hh,q⟩
    ·rintro ⟨h,hh,q1,q2⟩
     rcases qB3.mp hh with hh | hh
     ·exact ⟨h,hh,q1,q2⟩
     ·rw [qA9.mp hh] at q1
      rw [q1] at q2
      exact absurd q2 nl
   | true =>
    rw [hb] at e4
    have hL:=zN1.mp hb
    have s1:=zMK d4 (by rw [zA9]; omega) (cutI N.cs fun x=>decide (x∈g))
    have hlt:S.length<S4.length:=(qA1.mp d4).1
    refine ⟨_,_,.inl (zV9 _ e3 e4 s1),_,_,addT ts (cutI N.cs fun x=>decide (x∈g)),rfl,(kp.trans (x3.trans x4).kp).trans (zBx _ _),qD7 hlt,zOb nd,by have:=zKL ts (cutI N.cs fun x=>decide (x∈g)); omega,fun t=>?_⟩
    rw [zGP,mem]
    constructor
    ·rintro (⟨h,hh,q⟩ | rfl)
     ·exact ⟨h,qD5 _ hh,q⟩
     ·exact ⟨g,qC6 _ (qF0 _),rfl,hL⟩
    ·rintro ⟨h,hh,q1,q2⟩
     rcases qB3.mp hh with hh | hh
     ·exact .inl ⟨h,hh,q1,q2⟩
     ·rw [qA9.mp hh] at q1; exact .inr q1)
 rw [qA2] at ln2 mem2
 rw [qL8] at mem2
 have f1:=zGp d2
 have tp:=zB1 ts
 refine ⟨zDH ts,⟨tp.symm.nodup nd2,zBt ts,fun t=>?_⟩,by rw [tp.length_eq]; omega,S2.length,S2++[.lst ((zDH ts).map tD)],?_,?_,?_,zA2 _ _⟩
 ·rw [tp.mem_iff,mem2]
  constructor
  ·rintro ⟨g,hg,q1,q2⟩
   have gi:=zNg m g hg
   exact ⟨_,⟨decide_eq_true gi.1,decide_eq_false gi.2.1⟩,q1,q2⟩
  ·rintro ⟨C,hs,q1,q2⟩
   obtain ⟨g,hg,hgc⟩:=zQa hs m
   refine ⟨g,hg,?_,q2⟩
   rw [q1]
   refine zKA fun c hcm=>?_
   obtain ⟨a0,ab,bp,_⟩:=ok.c2 c hcm
   exact ⟨(hgc c.a a0 (by omega)).symm,(hgc c.b (by omega) (by omega)).symm⟩
 ·rw [show n+5=(n+4)+1 from rfl,H.ab]
  exact zAc rfl (zSm (pl:=N.pl) _ (fun S=>by unfold Net.d; simp) e1 l1 (by rw [qA2,zA9]; omega) e2 f1)
 ·refine Kp.trans ⟨?_,fun j hj _=>?_⟩ (zA8 _ _)
  ·have:=kp.le; have:=x1.le; simp at this; omega
  ·rw [kp.eq j (by have:=x1.le; simp at this; omega) (by omega),x1.eq j (by simp; omega) (fun z=>z),qA7 hj]
 ·have:=kp.le; have:=x1.le; simp at this; omega
structure HLs (cl:Nat→CLL):Prop where
 sh:zEE cl
 wi:zCI cl
theorem zU9 (c:CLL) {ad bd:D}{xs Z:List D}{b:Bool}{S:zA0} (hl:xs.length<lim) (e1:zAo [] .one (zBG c) (zBH c) [none,some bd] xs S=.ok Z S) (q:oEq (.lst S.length) (.lst (S.length+1)) (S++[.lst Z,.lst []])=.ok (.bl b) (S++[.lst Z,.lst []])):zBC c [some (.tup xs),some bd] S=.rt (.bl b) (S++[.lst Z,.lst []]):=by
 simp [zBC,hl,e1,q]
theorem zIN (h:zCI cl) (n:Nat) {a b:List Int} (ha:a.length≤100) (S:zA0):Spc (cl (n+1) "_law_within" [tD a,tD b] S) (.bl (a.all fun x=>decide (x∈b))) S:=by
 have e1:zAo [] .one (zBG (cl n)) (zBH (cl n)) [none,some (tD b)] (a.map D.int) S=.ok ((a.filter fun x=>!decide (x∈b)).map D.int) S:=by
  refine zAT D.int (zAm S) _ _ _ fun x hx=>⟨_,rfl,?_,fun _=>?_⟩
  ·have:oIn true (.int x) (tD b) S=.ok (.bl (!decide (x∈b))) S:=zBF true x b S
   simp [zBG,zBd,this]
  ·simp [zBH,zBd]
 have eS:S++[O.lst ((a.filter fun x=>!decide (x∈b)).map D.int),O.lst []]=S++[O.lst ((a.filter fun x=>!decide (x∈b)).map D.int)]++[O.lst []]:=by simp
 have q:=zGN (S:=S++[O.lst ((a.filter fun x=>!decide (x∈b)).map D.int)]++[O.lst []]) (zAd (zA2 S _)) (zA2 (S++[O.lst ((a.filter fun x=>!decide (x∈b)).map D.int)]) []) (qC2.mpr (zBf (by omega) _)) rfl
 have eb:eqB ((a.filter fun x=>!decide (x∈b)).map D.int) []=(a.all fun x=>decide (x∈b)):=by
  apply zAF
  rw [zBi,qK2,qJ2,qC2]
  simp
 rw [eb,← eS,show (S++[O.lst ((a.filter fun x=>!decide (x∈b)).map D.int)]).length=S.length+1 by simp] at q
 refine ⟨S++[.lst ((a.filter fun x=>!decide (x∈b)).map D.int),.lst []],?_,zA8 S _⟩
 rw [h]
 exact zAc rfl (zU9 (ad:=.non) _ (by rw [qA2,zA9]; omega) e1 q)
theorem zRF (c:CLL) {nd:D}{xs Z1 Z2:List D}{pl i:Int}{m k2 r:Nat}{w w4:Option D}{S S2 S3 S4:zA0} (i1:∀ S,oIx nd (.int 1) S=.ok (.int pl) S) (p1:-4611686018427387904≤pl) (p2:pl<4611686018427387904) (hr:(pl - 2).toNat=r) (hl:(upD 2 r).length<lim)
  (e1:zAo [] .one (zCe c) (zCg c) [none,some (.int i)] (upD 2 r) (S++[.lst [.int 0]])=.ok Z1 (S++[.lst [.int 0]])) (h2:S++[.lst [.int 0],.lst Z1]=S2) (a1:oAdd (.lst S.length) (.lst (S.length+1)) S2=.ok (.lst k2) S3)
  (i2:∀ S,oIx nd (.int 2) S=.ok (.tup xs) S) (hl2:(zBI xs).length<lim) (e2:zAo [] (.many 2) (zCf c) (zCh c) [none,none,some (.lst k2)] (zBI xs) S3=.ok Z2 S3)
  (f1:zBa [.lst S3.length] (S3++[.lst Z2])=.ok (.tup Z2) (S3++[.lst Z2])) (s1:oSet (.dct m) (.tup Z2) (.bl true) (S3++[.lst Z2])=some S4) :
  zB3 c [some nd,some (.dct m),some (.int i),w,w4] S=.nx [some nd,some (.dct m),some (.int i),some (.lst k2),w4] S4:=by
 simp [zB3,i1,p1,p2,hr,hl,e1,h2,a1,i2,hl2,e2,f1,s1]
theorem zKU (n:Nat) {N:Net} (ok:N.g) {m j:Nat}{ts:List (List Int)}{S:zA0} (hd:S[m]?=some (dO ts)) (hl:ts.length≤1000) (w w4:Option D) :
  ∃ k S',zB3 (cl n) [some N.d,some (.dct m),some (.int (j:Nat)),w,w4] S=.nx [some N.d,some (.dct m),some (.int (j:Nat)),some (.lst k),w4] S'∧Kp (·=m) S S'∧S'[m]?=some (dO (addT ts (cutI N.cs fun x=>decide (x∈zDu N.pl j)))):=by
 have hc:N.cs.length≤16:=by have:=ok.c1; omega
 have p1:=ok.p1
 have p2:=ok.p2
 have hr:(N.pl - 2).toNat≤5:=by omega
 have e1:zAo [] .one (zCe (cl n)) (zCg (cl n)) [none,some (.int (j:Nat))] (upD 2 (N.pl - 2).toNat) (S++[.lst [.int 0]])=.ok ((((List.range (N.pl - 2).toNat).map fun (k:Nat)=>(2:Int)+k).filter (bitB j)).map D.int) (S++[.lst [.int 0]]):=by
  have eu:upD 2 (N.pl - 2).toNat=((List.range (N.pl - 2).toNat).map fun (k:Nat)=>(2:Int)+k).map D.int:=by unfold upD; rw [qF7]; rfl
  rw [eu]
  refine zAT D.int (zAm _) _ _ _ fun x hx=>⟨_,rfl,?_,fun _=>?_⟩
  ·obtain ⟨k,hk,rfl⟩:=qC8.mp hx
   have h0:(0:Int)≤2+(k:Int) - 2:=by omega
   unfold bitB
   generalize (2:Int)+(k:Int)=x at h0
   have h2x:2≤x:=by omega
   simp [zCe,zBd,oShr,h2x]
  ·simp [zCg,zBd]
 obtain ⟨Z1,hZ1⟩:∃ Z1,(((List.range (N.pl - 2).toNat).map fun (k:Nat)=>(2:Int)+k).filter (bitB j))=Z1:=⟨_,rfl⟩
 rw [hZ1] at e1
 have zl:Z1.length≤5:=by
  rw [← hZ1]
  refine qC5 (qD8 ..) ?_
  rw [qA2,qN7]; exact hr
 have hsd:(0:Int)::Z1=zDu N.pl j:=by unfold zDu; rw [hZ1]
 obtain ⟨S2,h2⟩:∃ S2,S++[O.lst [D.int 0],O.lst (Z1.map D.int)]=S2:=⟨_,rfl⟩
 have h2':S++[O.lst [D.int 0]]++[O.lst (Z1.map D.int)]=S2:=by rw [← h2]; simp
 have la:zA4 S2 S.length=some [D.int 0]:=by rw [← h2']; exact zAd (zA2 S _)
 have lb:zA4 S2 (S.length+1)=some (Z1.map D.int):=by
  have:=zA2 (S++[O.lst [D.int 0]]) (Z1.map D.int)
  rw [h2'] at this
  simpa using this
 have a1:=zEK la lb (by rw [qA2,zA9]; simp; omega)
 obtain ⟨S3,h3⟩:∃ S3,S2++[O.lst ([D.int 0]++Z1.map D.int)]=S3:=⟨_,rfl⟩
 rw [h3] at a1
 have lk:zA4 S3 S2.length=some ((zDu N.pl j).map D.int):=by
  rw [← h3,zA2,← hsd]; rfl
 have e2:zAo [] (.many 2) (zCf (cl n)) (zCh (cl n)) [none,none,some (.lst S2.length)] ((zAY N.cs).map fun q=>.tup [.int (q.1:Nat),q.2.d]) S3=.ok (((zAY N.cs).filter fun q=>decide (q.2.a∈zDu N.pl j) != decide (q.2.b∈zDu N.pl j)).map fun q=>D.int (q.1:Nat)) S3:=by
  refine zAT (fun q:Nat × Ct=>.tup [.int (q.1:Nat),q.2.d]) (zAm _) _ _ _ fun q hq=>⟨_,rfl,?_,fun _=>?_⟩
  ·have o1:=zMN lk false q.2.a
   have o2:=zMN lk false q.2.b
   simp only [qD9,if_false] at o1 o2
   simp [zCf,zBd,Ct.d,o1,o2]
  ·simp [zCh,zBd]
 rw [zKB N.cs fun x=>decide (x∈zDu N.pl j)] at e2
 obtain ⟨t,ht⟩:∃ t,(cutI N.cs fun x=>decide (x∈zDu N.pl j))=t:=⟨_,rfl⟩
 rw [ht] at e2 ⊢
 have x3:Ex S S3:=by
  rw [← h3,← h2]
  exact (zA8 _ _).trans (zA8 _ _)
 have f1:zBa [.lst S3.length] (S3++[.lst (t.map D.int)])=.ok (.tup (t.map D.int)) _:=zBM (zA2 S3 _)
 have d4:(S3++[O.lst (t.map D.int)])[m]?=some (dO ts):=(zA8 S3 _).at (x3.at hd fun z=>z) fun z=>z
 have s1:=zMK d4 (by rw [zA9]; omega) t
 have hlt:=(qA1.mp d4).1
 refine ⟨S2.length,(S3++[O.lst (t.map D.int)]).set m (dO (addT ts t)),zRF (pl:=N.pl) (xs:=N.cs.map Ct.d) _ (fun S=>by unfold Net.d; simp) (by omega) (by omega) rfl (by rw [show (upD 2 (N.pl - 2).toNat).length=(N.pl - 2).toNat by simp [upD],zA9]; omega) e1 h2 a1 (fun S=>zLv S) (by rw [zAC,qA2,zBB,zA9]; omega) (by rw [zAC]; exact e2) f1 s1,(x3.trans (zA8 _ _)).kp.trans (zBx _ _),qD7 hlt⟩
theorem zUa (c:CLL) {ad bd:D}{b1 b2:Bool}{S S1:zA0} (q:oNe ad bd S=.ok (.bl b1) S) (e:c "_law_within" [ad,bd] S=.ok (.bl b2) S1) (h:b1=true):zAH c [some ad,some bd] S=.ok b2 S1:=by
 subst h
 simp [zAH,q,e]
theorem zRD (c:CLL) {ad bd:D}{S:zA0} (q:oNe ad bd S=.ok (.bl false) S):zAH c [some ad,some bd] S=.ok false S:=by
 simp [zAH,q]
theorem zUb (c:CLL) {ad:D}{k:Nat}{L Z:List D}{b:Bool}{S S1:zA0} (l1:zA4 S k=some L) (hl:L.length<lim) (e:zAo [(k,L)] .one (zAH c) (zCi c) [none,some ad] L S=.ok Z S1) (q:oEq (.lst S1.length) (.lst (S1.length+1)) (S1++[.lst Z,.lst []])=.ok (.bl b) (S1++[.lst Z,.lst []])) :
  zBv c [some ad,some (.lst k)] S=.ok b (S1++[.lst Z,.lst []]):=by
 simp [zBv,l1,hl,e,q]
theorem zRE (c:CLL) {nd:D}{pl z:Int}{m k:Nat}{L Z:List D}{v2 v3 v4 w1 w2 w3 w4:Option D}{S S1 S2 S3:zA0} (i1:∀ S,oIx nd (.int 1) S=.ok (.int pl) S) (sh:∀ S,oShl (.int 1) (.int (pl - 2)) S=.ok (.int z) S) (z0:-4611686018427387904≤z) (z1:z<4611686018427387904) (hz:z.toNat=m) (hl:(upD 0 m).length<lim)
  (e1:zAG [] (gN 2) (zB3 c) (upD 0 m) [some nd,some (.dct S.length),w2,w3,w4] (S++[.dk []])=.nx [some nd,some (.dct S.length),v2,v3,v4] S1) (f1:zAt [.dct S.length] S1=.ok (.lst k) S2) (l2:zA4 S2 k=some L) (hl2:L.length<lim)
  (e2:zAo [(k,L)] .one (zBv c) (zCj c) [none,some (.lst k)] L S2=.ok Z S3):zC1 c [some nd,w1,w2,w3,w4] S=.rt (.lst S3.length) (S3++[.lst Z]):=by
 simp [zC1,i1,sh,z0,z1,hz,hl,e1,f1,l2,hl2,e2]
noncomputable def zF7 (L:List (List Int)) (t:List Int):Bool:=L.all fun u=>decide (u=t)||!(u.all fun x=>decide (x∈t))
theorem zFN (H:HLs cl) (n:Nat) {N:Net} (ok:N.g) (S:zA0):∃ L,zDt N.cs L∧L.length≤32∧LstR (cl (n+2) "_law_shuts" [N.d] S) S (L.map tD):=by
 have hc:N.cs.length≤16:=by have:=ok.c1; omega
 have p1:=ok.p1
 have p2:=ok.p2
 obtain ⟨m,hm⟩:∃ m,2 ^ (N.pl - 2).toNat=m:=⟨_,rfl⟩
 have m32:m≤32:=by
  rw [← hm]
  exact qC5 (qE9 (by omega) (show (N.pl - 2).toNat≤5 by omega)) (by decide)
 have d1:(S++[O.dk []])[S.length]?=some (dO []):=by rw [qA0 (qB0 _)]; simp [dO]
 obtain ⟨ρ',S1,e1,v2,v3,v4,ts,rfl,kp,d2,nd2,ln2,mem2⟩:=zAW (w:=[]) (g:=gN 2) (b:=zB3 (cl (n+1))) (items:=upD 0 m)
  (fun i ρ S'=>∃ v2 v3 v4 ts,ρ=[some N.d,some (.dct S.length),v2,v3,v4]∧Kp (·=S.length) (S++[O.dk []]) S'∧S'[S.length]?=some (dO ts)∧ts.Nodup∧ts.length≤i∧∀ t,t∈ts↔∃ j,j<i∧t=cutI N.cs (fun x=>decide (x∈zDu N.pl j)))
  (ρ:=[some N.d,some (.dct S.length),none,none,none]) (S:=S++[O.dk []]) (fun _ _ _ _=>zAm _) ⟨none,none,none,[],rfl,Kp.refl _ _,d1,qN1,qB0 _,fun t=>by simp⟩
  (fun i d ρ S' hd hp=>by
   obtain ⟨v2,v3,v4,ts,rfl,kp,dd,nd,ln,mem⟩:=hp
   unfold upD at hd
   rw [qB7] at hd
   obtain ⟨j,hj,rfl⟩:=qA4.mp hd
   have hji:j=i∧i<m:=by
    obtain ⟨a,b⟩:=qA1.mp hj
    simp at a b
    exact ⟨b.symm,a⟩
   obtain ⟨rfl,him⟩:=hji
   obtain ⟨k,S2,e2,kp2,d3⟩:=zKU (cl:=cl) (n+1) ok (j:=j) dd (by omega) v3 v4
   refine ⟨[some N.d,some (.dct S.length),some (.int (j:Nat)),v3,v4],S',by simp,_,S2,.inl e2,_,_,_,_,rfl,kp.trans kp2,d3,zOb nd,by have:=zKL ts (cutI N.cs fun x=>decide (x∈zDu N.pl j)); omega,fun t=>?_⟩
   rw [zGP,mem]
   constructor
   ·rintro (⟨i,hi,q⟩ | rfl)
    ·exact ⟨i,by omega,q⟩
    ·exact ⟨j,by omega,rfl⟩
   ·rintro ⟨i,hi,q⟩
    by_cases e:i=j
    ·subst e; exact .inr q
    ·exact .inl ⟨i,by omega,q⟩)
 have hu:(upD 0 m).length=m:=by simp [upD]
 rw [hu] at ln2 mem2
 have f1:=zGp d2
 have tp:=zB1 ts
 obtain ⟨L,hL⟩:∃ L,zDH ts=L:=⟨_,rfl⟩
 have so:=zBt ts
 rw [hL] at f1 tp so
 obtain ⟨S2,h2⟩:∃ S2,S1++[O.lst (L.map tD)]=S2:=⟨_,rfl⟩
 rw [h2] at f1
 have l2:zA4 S2 S1.length=some (L.map tD):=by rw [← h2]; exact zA2 _ _
 have Ll:L.length≤32:=by rw [tp.length_eq]; omega
 have cl16:∀ t∈L,t.length≤16:=fun t ht=>by
  obtain ⟨j,_,rfl⟩:=(mem2 t).mp (tp.mem_iff.mp ht)
  exact qC5 zH1 hc
 have pt:∀ (k:Nat) (t:List Int),plain (k+2) (tD t)=true:=fun k t=>zDM (n:=k+1) (zBf (by omega) t)
 obtain ⟨S3,e3,x3⟩:=zBq tD (w:=[(S1.length,L.map tD)]) (t:=.one) (tc:=zBv (cl (n+1))) (c:=zCj (cl (n+1))) (ρ0:=[none,some (.lst S1.length)]) (fun S'=>Ex S2 S') (fun S' hx=>zBD (hx.lst l2 fun z=>z))
  (zF7 L) tD L (S:=S2) (Kp.refl _ _) (fun t ht S' hx=>by
   refine ⟨[some (tD t),some (.lst S1.length)],rfl,?_⟩
   have l4:zA4 S' S1.length=some (L.map tD):=hx.lst l2 fun z=>z
   obtain ⟨S4,e4,x4⟩:=zBq tD (w:=[(S1.length,L.map tD)]) (t:=.one) (tc:=zAH (cl (n+1))) (c:=zCi (cl (n+1))) (ρ0:=[none,some (tD t)]) (fun S''=>Ex S' S'') (fun S'' hx=>zBD (hx.lst l4 fun z=>z))
    (fun u=>!decide (u=t)&&u.all fun x=>decide (x∈t)) tD L (S:=S') (Kp.refl _ _) (fun u hu S'' hx=>by
     refine ⟨[some (tD u),some (tD t)],rfl,?_⟩
     have q:=zMM (x:=tD u) (y:=tD t) S'' (pt 38 u) (pt 38 t)
     by_cases e:u=t
     ·subst e
      rw [show (!eqB (tD u) (tD u))=false by rw [zBi.mpr rfl]; rfl] at q
      refine ⟨S'',by simpa using zRD (cl (n+1)) q,fun _=>hx,fun z=>by simp at z⟩
     ·have ne:tD u≠tD t:=fun z=>e (by
       unfold tD at z
       injection z with z
       exact (qR0 (fun a b q=>D.int.inj q)).mp z)
      rw [zI9 ne] at q
      obtain ⟨S5,e5,x5⟩:=zIN H.wi n (a:=u) (b:=t) (by have:=cl16 u hu; omega) S''
      refine ⟨S5,?_,fun _=>hx.trans x5,fun _=>⟨S5,by simp [zCi],hx.trans x5⟩⟩
      rw [show (!decide (u=t)&&u.all fun x=>decide (x∈t))=(u.all fun x=>decide (x∈t)) by simp [e]]
      exact zUa _ q e5 rfl)
   obtain ⟨Z,hZ⟩:∃ Z,(L.filter fun u=>!decide (u=t)&&u.all fun x=>decide (x∈t))=Z:=⟨_,rfl⟩
   rw [hZ] at e4
   have eS:S4++[O.lst (Z.map tD),O.lst []]=S4++[O.lst (Z.map tD)]++[O.lst []]:=by simp
   have q:=zGN (S:=S4++[O.lst (Z.map tD)]++[O.lst []]) (zAd (zA2 S4 _)) (zA2 (S4++[O.lst (Z.map tD)]) []) (qC2.mpr fun d hd=>by obtain ⟨u,_,rfl⟩:=qC8.mp hd; exact pt 37 u) rfl
   have eb:eqB (Z.map tD) []=zF7 L t:=by
    apply zAF
    rw [zBi,qK2,← hZ,qJ2]
    unfold zF7
    rw [qC2]
    constructor
    ·intro h u hu
     have:=h u hu
     simp only [qC9,qI2,decide_eq_false_iff_not,not_and] at this
     by_cases e:u=t
     ·simp [e]
     ·have:=this e
      simp only [qS3] at this
      simp [this]
    ·intro h u hu
     have:=h u hu
     simp only [qF8,decide_eq_true_eq,qI2] at this
     rcases this with e | e
     ·simp [e]
     ·simp [e]
   rw [eb,← eS,show (S4++[O.lst (Z.map tD)]).length=S4.length+1 by simp] at q
   exact ⟨S4++[.lst (Z.map tD),.lst []],zUb _ l4 (by rw [qA2,zA9]; omega) e4 q,fun _=>(hx.trans x4).trans (zA8 _ _),fun _=>⟨S4++[.lst (Z.map tD),.lst []],by simp [zCj],(hx.trans x4).trans (zA8 _ _)⟩⟩)
 have cutL:∀ t,t∈L↔∃ C,Side C∧t=cutI N.cs C:=fun t=>by
  rw [tp.mem_iff,mem2]
  constructor
  ·rintro ⟨j,_,q⟩; exact ⟨_,zEb N.pl j,q⟩
  ·rintro ⟨C,hs,q⟩
   obtain ⟨j,hj,hjc⟩:=zMg hs p1 p2
   refine ⟨j,by rw [← hm]; exact hj,?_⟩
   rw [q]
   refine zKA fun c hcm=>?_
   obtain ⟨a0,ab,bp,_⟩:=ok.c2 c hcm
   exact ⟨(hjc c.a a0 (by omega)).symm,(hjc c.b (by omega) bp).symm⟩
 refine ⟨L.filter (zF7 L),⟨(tp.symm.nodup nd2).sublist qQ2,so.sublist qQ2,fun t=>?_⟩,qC5 (qD8 ..) Ll,S3.length,S3++[.lst ((L.filter (zF7 L)).map tD)],?_,?_,?_,zA2 _ _⟩
 ·rw [qE4,cutL]
  constructor
  ·rintro ⟨⟨C,hs,q⟩,hb⟩
   refine ⟨C,hs,q,fun C' hs' hsub=>?_⟩
   have:=qC2.mp hb (cutI N.cs C') ((cutL _).mpr ⟨C',hs',rfl⟩)
   simp only [qF8,decide_eq_true_eq,qI2] at this
   rcases this with e | e
   ·exact e
   ·rw [qC2.mpr fun x hx=>decide_eq_true (hsub x hx)] at e; cases e
  ·rintro ⟨C,hs,q,hl⟩
   refine ⟨⟨C,hs,q⟩,qC2.mpr fun u hu=>?_⟩
   obtain ⟨C',hs',rfl⟩:=(cutL u).mp hu
   by_cases e:(cutI N.cs C').all (fun x=>decide (x∈t))=true
   ·rw [hl C' hs' fun x hx=>of_decide_eq_true (qC2.mp e x hx)]; simp
   ·rw [Bool.eq_false_iff.mpr e]; simp
 ·rw [show n+2=(n+1)+1 from rfl,H.sh]
  refine zAc rfl (zRE (pl:=N.pl) (z:=(m:Int)) _ (fun S=>by unfold Net.d; simp) (fun S=>?_) (by omega) (by omega) (by omega) (by rw [hu,zA9]; omega) e1 f1 l2 (by rw [qA2,zA9]; omega) e3)
  unfold oShl
  dsimp only
  rw [if_pos ⟨by omega,by omega,by decide⟩,← hm]
  congr 2
  rw [Int.one_mul]; norm_cast
 ·have x12:Ex S S2:=by
   refine Kp.trans ⟨?_,fun j hj _=>?_⟩ (by rw [← h2]; exact zA8 _ _)
   ·have:=kp.le; simp at this; omega
   ·rw [kp.eq j (by simp; omega) (by omega),qA7 hj]
  exact (x12.trans x3).trans (zA8 _ _)
 ·have:=kp.le
  have:=x3.le
  rw [← h2] at this
  simp at *
  omega
theorem zQ5 {α:Type} (f:α→Nat):∀ l:List α,l≠[]→∃ v∈l,∀ u∈l,f u≤f v
 | [],h=>absurd rfl h
 | [a],_=>⟨a,qF0 _,fun u hu=>by rw [qA9.mp hu]; exact qB0 _⟩
 | a::b::l,_=>by
  obtain ⟨v,hv,h⟩:=zQ5 f (b::l) (by simp)
  by_cases hc:f a≤f v
  ·exact ⟨v,qC0 _ hv,fun u hu=>by
    rcases qB9.mp hu with rfl | hu
    ·exact hc
    ·exact h u hu⟩
  ·exact ⟨a,qD4 ..,fun u hu=>by
    rcases qB9.mp hu with rfl | hu
    ·exact qB0 _
    ·have:=h u hu; omega⟩
theorem zNI:∀ d:Nat,d ^ 3≤3 ^ d
 | 0=>by decide
 | 1=>by decide
 | 2=>by decide
 | 3=>by decide
 | d+4=>by
  have ih:=zNI (d+3)
  rw [qR4 3 (d+3)]
  have:(d+4) ^ 3≤(d+3) ^ 3*3:=by
   have h1:(3*(d+4)) ^ 3≤(4*(d+3)) ^ 3:=qM7 (by omega) 3
   rw [qS7,qS7] at h1
   have e1:(3:Nat) ^ 3=27:=by decide
   have e2:(4:Nat) ^ 3=64:=by decide
   rw [e1,e2] at h1
   omega
  omega
theorem zNo {cs:List Ct}{b:Nat}:∀ l:List Wk,(∀ v∈l,(Vs cs v).length≤b)→(l.flatMap (Vs cs)).length≤l.length*b
 | [],_=>by simp
 | v::l,h=>by
  have:=zNo l fun u hu=>h u (qC0 _ hu)
  have:=h v (qD4 ..)
  rw [qL3,qB2,qD0,qP7,qS6]; omega
theorem zOd {cs:List Ct} (h7:In7 cs):∀ (f:Nat) (w:Wk),WOk cs w→9 - w.1.length≤f→(Vs cs w).length ^ 3≤3 ^ live cs w
 | 0,w,h,hf=>by have:=h.le; omega
 | f+1,w,h,hf=>by
  rw [zHg h7 h]
  split
  ·simp only [qP2,Nat.one_pow]; exact Nat.one_le_pow _ _ (by decide)
  ·by_cases hk:kids cs w=[]
   ·rw [hk]; simp
   ·obtain ⟨v,hv,hmax⟩:=zQ5 (fun v=>(Vs cs v).length) (kids cs w) hk
    obtain ⟨vo,vl⟩:=zDB h7 h v hv
    have ih:=zOd h7 f v vo (by omega)
    have kl:=zF9 h v hv
    have h1:=zNo (cs:=cs) (b:=(Vs cs v).length) (kids cs w) hmax
    calc ((kids cs w).flatMap (Vs cs)).length ^ 3≤((kids cs w).length*(Vs cs v).length) ^ 3:=qM7 h1 3
     _=(kids cs w).length ^ 3*(Vs cs v).length ^ 3:=qS7 ..
     _≤3 ^ (kids cs w).length*3 ^ live cs v:=Nat.mul_le_mul (zNI _) ih
     _=3 ^ ((kids cs w).length+live cs v):=(Nat.pow_add ..).symm
     _≤3 ^ live cs w:=qE9 (by decide) kl
theorem zJX {N:Net} (ok:N.g):(zCm N).length≤400:=by
 have hc:N.cs.length≤16:=by have:=ok.c1; omega
 have h:=zOd (ok.in7 (by decide)) 9 w0 (zLZ N.cs) (by omega)
 have hl:live N.cs w0≤16:=qC5 (qD8 ..) hc
 have h2:3 ^ live N.cs w0≤3 ^ 16:=qE9 (by decide) hl
 unfold zCm
 rw [(zB1 _).length_eq]
 apply Classical.byContradiction
 intro hn
 have:401 ^ 3≤(Vs N.cs w0).length ^ 3:=qM7 (by omega) 3
 have e1:(401:Nat) ^ 3=64481201:=by decide
 have e2:(3:Nat) ^ 16=43046721:=by decide
 omega
def Few (t:List Int):Prop:=t.length≤16∧∀ x∈t,0≤x∧x<100
theorem zVb {cs:List Ct} (h7:In7 cs) (hc:cs.length≤16):∀ (f:Nat) (w:Wk),WOk cs w→(∀ x∈w.2,0≤x∧x<100)→9 - w.1.length≤f→∀ t∈Vs cs w,Few t
 | 0,w,h,_,hf=>by have:=h.le; omega
 | f+1,w,h,hn,hf=>by
  intro t ht
  rw [zHg h7 h] at ht
  split at ht
  ·rw [qA9.mp ht]
   have p:=zDf w.2
   refine ⟨by rw [p.length_eq]; have:=h.ln; have:=h.le; omega,fun x hx=>hn x (p.mem_iff.mp hx)⟩
  ·obtain ⟨v,hv,ht⟩:=qS5.mp ht
   obtain ⟨vo,vl⟩:=zDB h7 h v hv
   refine zVb h7 hc f v vo (fun x hx=>?_) (by omega) t ht
   obtain ⟨q,hq,e⟩:=qF9.mp hv
   obtain ⟨u,_,_,rfl⟩:=zDX (cs:=cs) e
   rcases qB3.mp hx with hx | hx
   ·exact hn x hx
   ·rw [qA9.mp hx]
    have:=(qA1.mp (zDZ hq)).1
    omega
theorem zNs {L:List (List Int)} (h:∀ t∈L,Few t) (hl:L.length≤400):(L.map tD).all (rok 39)=true∧dszs (L.map tD)≤25000:=by
 constructor
 ·rw [qC2]
  intro d hd
  obtain ⟨t,ht,rfl⟩:=qC8.mp hd
  exact zOE 37 t fun i hi=>by have:=(h t ht).2 i hi; omega
 ·refine qC5 (zS6 (c:=16) fun d hd=>?_) ?_
  ·obtain ⟨t,ht,rfl⟩:=qC8.mp hd
   show dszs (t.map D.int)≤16
   rw [zNy]; exact (h t ht).1
  ·rw [qA2]; omega
theorem zHo {N:Net} (ok:N.g):∀ t∈zCm N,Few t:=fun t ht=>by
 have hc:N.cs.length≤16:=by have:=ok.c1; omega
 exact zVb (ok.in7 (by decide)) hc 9 w0 (zLZ _) (fun x hx=>by simp [w0] at hx) (by omega) t ((zB1 _).mem_iff.mp ht)
theorem zDt.few {N:Net} (ok:N.g) {L:List (List Int)} (h:zDt N.cs L):∀ t∈L,Few t:=fun t ht=>by
 have hc:N.cs.length≤16:=by have:=ok.c1; omega
 obtain ⟨C,_,rfl,_⟩:=(h.mem t).mp ht
 refine ⟨qC5 zH1 hc,fun x hx=>?_⟩
 obtain ⟨i,c,hi,_,rfl⟩:=zDz.mp hx
 have:=(qA1.mp hi).1
 omega
theorem zVa {cs:List Ct} (h7:In7 cs):∀ (f:Nat) (w:Wk),WOk cs w→(∀ x∈w.2,0≤x∧x<(cs.length:Int))→9 - w.1.length≤f→∀ t∈Vs cs w,∀ x∈t,0≤x∧x<(cs.length:Int)
 | 0,w,h,_,hf=>by have:=h.le; omega
 | f+1,w,h,hn,hf=>by
  intro t ht
  rw [zHg h7 h] at ht
  split at ht
  ·rw [qA9.mp ht]
   exact fun x hx=>hn x ((zDf w.2).mem_iff.mp hx)
  ·obtain ⟨v,hv,ht⟩:=qS5.mp ht
   obtain ⟨vo,vl⟩:=zDB h7 h v hv
   refine zVa h7 f v vo (fun x hx=>?_) (by omega) t ht
   obtain ⟨q,hq,e⟩:=qF9.mp hv
   obtain ⟨u,_,_,rfl⟩:=zDX (cs:=cs) e
   rcases qB3.mp hx with hx | hx
   ·exact hn x hx
   ·rw [qA9.mp hx]
    have:=(qA1.mp (zDZ hq)).1
    omega
def Ixs (cs:List Ct) (t:List Int):Prop:=t.length≤16∧∀ x∈t,0≤x∧x<(cs.length:Int)
theorem zLY {N:Net} (ok:N.g):∀ t∈zCm N,Ixs N.cs t:=fun t ht =>
 ⟨(zHo ok t ht).1,zVa (ok.in7 (by decide)) 9 w0 (zLZ _) (fun x hx=>by simp [w0] at hx) (by omega) t ((zB1 _).mem_iff.mp ht)⟩
theorem zDt.ix {N:Net} (ok:N.g) {L:List (List Int)} (h:zDt N.cs L):∀ t∈L,Ixs N.cs t:=fun t ht=>by
 refine ⟨(h.few ok t ht).1,fun x hx=>?_⟩
 obtain ⟨C,_,rfl,_⟩:=(h.mem t).mp ht
 obtain ⟨i,c,hi,_,rfl⟩:=zDz.mp hx
 have:=(qA1.mp hi).1
 omega
noncomputable def ctAt (cs:List Ct) (x:Int):Ct:=cs.getD x.toNat ⟨0,0,0,0⟩
theorem zCG {cs:List Ct}{x:Int} (h:0≤x∧x<(cs.length:Int)):cs[x.toNat]?=some (ctAt cs x):=by
 unfold ctAt
 rw [qG4,qA6 (by omega)]; rfl
noncomputable def pk (l:List (Int × Int)):List (Key × D):=l.map fun p=>((Sum.inl p.1:Key),D.int p.2)
theorem zQ0 (l:List (Int × Int)) (k:Int):valD (pk l) (.inl k)=(l.lookup k).map D.int:=by
 induction l with
 | nil=>rfl
 | cons p l ih =>
  unfold valD pk at ih ⊢
  rw [qC1,qE5,qD1]
  by_cases h:p.1=k
  ·subst h; simp
  ·have h1:(k == p.1)=false:=by simpa using fun e:k=p.1=>h e.symm
   have h2:decide ((Sum.inl p.1:Key)=Sum.inl k)=false:=decide_eq_false fun e=>h (Sum.inl.inj e)
   rw [h2,h1]
   exact ih
theorem zTp {l:List (Int × Int)}{k o:Int} (h:l.lookup k=none):putD (pk l) (.inl k) (.int o)=pk (l++[(k,o)]):=by
 unfold putD
 have:((pk l).any fun kv=>decide (kv.1=(Sum.inl k:Key)))=false:=by
  rw [List.any_eq_false]
  intro kv hkv
  unfold pk at hkv
  obtain ⟨p,hp,rfl⟩:=qC8.mp hkv
  simp only [decide_eq_true_eq]
  intro e
  have e':p.1=k:=Sum.inl.inj e
  have:=List.lookup_eq_none_iff.mp h p hp
  simp [e'] at this
 rw [if_neg (by rw [this]; simp)]
 unfold pk
 simp
noncomputable def zCX (l:List (Int × Int)):List Ct→Bool
 | []=>true
 | c::cs=>match l.lookup c.k with
  | some o=>if o=c.o then zCX l cs else false
  | none=>zCX (l++[(c.k,c.o)]) cs
def Cons (cs:List Ct):Prop:=∀ c∈cs,∀ c'∈cs,c.k=c'.k→c.o=c'.o
theorem zEj (l:List (Int × Int)) (k o k':Int):(l++[(k,o)]).lookup k'=match l.lookup k' with | some x=>some x | none=>if k'=k then some o else none:=by
 induction l with
 | nil =>
  simp only [List.nil_append,qD1,List.lookup_nil]
  by_cases h:k'=k
  ·simp [h]
  ·have:(k' == k)=false:=by simpa using h
   rw [this]; simp [h]
 | cons p l ih =>
  rw [qG6,qD1,qD1]
  cases h:(k' == p.1) with
  | true=>rfl
  | false=>simpa using ih
theorem zEk:∀ (cs:List Ct) (l:List (Int × Int)),zCX l cs=true↔(∀ c∈cs,∀ o,l.lookup c.k=some o→o=c.o)∧Cons cs
 | [],l=>by simp [zCX,Cons]
 | c::cs,l=>by
  unfold zCX
  split
  ·rename_i o e
   by_cases h:o=c.o
   ·rw [if_pos h,zEk cs l]
    constructor
    ·rintro ⟨h1,h2⟩
     refine ⟨fun c' hc' o' e'=>?_,fun a ha b hb hab=>?_⟩
     ·rcases qB9.mp hc' with rfl | hc'
      ·rw [e] at e'; cases e'; exact h
      ·exact h1 c' hc' o' e'
     ·rcases qB9.mp ha with ea | ha' <;> rcases qB9.mp hb with eb | hb'
      ·rw [ea,eb]
      ·rw [ea,← h]; exact h1 b hb' o (by rw [← hab,ea]; exact e)
      ·rw [eb,← h]; exact (h1 a ha' o (by rw [hab,eb]; exact e)).symm
      ·exact h2 a ha' b hb' hab
    ·rintro ⟨h1,h2⟩
     exact ⟨fun c' hc'=>h1 c' (qC0 _ hc'),fun a ha b hb=>h2 a (qC0 _ ha) b (qC0 _ hb)⟩
   ·rw [if_neg h]
    constructor
    ·intro z; cases z
    ·rintro ⟨h1,_⟩; exact absurd (h1 c (qD4 ..) o e) h
  ·rename_i e
   rw [zEk cs (l++[(c.k,c.o)])]
   constructor
   ·rintro ⟨h1,h2⟩
    have h3:∀ b∈cs,b.k=c.k→c.o=b.o:=fun b hb hk=>h1 b hb c.o (by rw [zEj,hk,e]; simp)
    refine ⟨fun c' hc' o' e'=>?_,fun a ha b hb hab=>?_⟩
    ·rcases qB9.mp hc' with rfl | hc'
     ·rw [e] at e'; cases e'
     ·exact h1 c' hc' o' (by rw [zEj,e'])
    ·rcases qB9.mp ha with ea | ha' <;> rcases qB9.mp hb with eb | hb'
     ·rw [ea,eb]
     ·rw [ea]; exact h3 b hb' (by rw [← hab,ea])
     ·rw [eb]; exact (h3 a ha' (by rw [hab,eb])).symm
     ·exact h2 a ha' b hb' hab
   ·rintro ⟨h1,h2⟩
    refine ⟨fun c' hc' o' e'=>?_,fun a ha b hb=>h2 a (qC0 _ ha) b (qC0 _ hb)⟩
    rw [zEj] at e'
    split at e'
    ·rename_i x hx; cases e'; exact h1 c' (qC0 _ hc') _ hx
    ·split at e'
     ·rename_i hk
      cases e'
      exact h2 c (qD4 ..) c' (qC0 _ hc') hk.symm
     ·cases e'
noncomputable def zAX (cs:List Ct) (t:List Int):Bool:=@decide (Cons (t.map (ctAt cs))) (Classical.propDecidable _)
theorem zCY {cs:List Ct}{t:List Int}:zAX cs t=true↔Cons (t.map (ctAt cs)):=@decide_eq_true_iff _ (Classical.propDecidable _)
theorem zPc {cs:List Ct}{t:List Int}{b:Bool} (h:b=true↔Cons (t.map (ctAt cs))):b=zAX cs t:=zAF (h.trans zCY.symm)
theorem zMk {S:zA0}{m:Nat}{l:List (Int × Int)}{k o:Int} (h:S[m]?=some (.dk (pk l))) (hv:l.lookup k=some o) (z:D):zGQ (.dct m) [.int k,z] S=.ok (.int o) S:=by
 have e:valD (pk l) (.inl k)=some (.int o):=by rw [zQ0,hv]; rfl
 unfold zGQ
 dsimp only
 rw [h]
 show (match valD (pk l) (.inl k) with | some v=>R.ok v S | none=>_)=_
 rw [e]
theorem zMj {S:zA0}{m:Nat}{l:List (Int × Int)}{k o:Int} (h:S[m]?=some (.dk (pk l))) (hv:l.lookup k=none) (hl:l.length<lim):zGQ (.dct m) [.int k,.int o] S=.ok (.int o) (S.set m (.dk (pk (l++[(k,o)])))):=by
 have e:valD (pk l) (.inl k)=none:=by rw [zQ0,hv]; rfl
 unfold zGQ
 dsimp only
 rw [h]
 show (match valD (pk l) (.inl k) with | some v=>R.ok v S | none=>if (pk l).length<lim then R.ok (D.int o) (S.set m (.dk (putD (pk l) (.inl k) (.int o)))) else .bad)=_
 rw [e]
 dsimp only
 rw [if_pos (by unfold pk; rw [qA2]; exact hl),zTp hv]
theorem zNe (c:CLL) {nd sd cd:D}{csd:D}{m:Nat}{x k o r:Int}{w4:Option D}{S S1:zA0} (i2:oIx nd (.int 2) S=.ok csd S) (ix:oIx csd (.int x) S=.ok cd S) (c2:∀ S,oIx cd (.int 2) S=.ok (.int k) S) (c3:∀ S,oIx cd (.int 3) S=.ok (.int o) S) (ty:tyOk "dict" (.dct m) S=true) (m1:zGQ (.dct m) [.int k,.int o] S=.ok (.int r) S1) :
  zAp c [some nd,some sd,some (.dct m),some (.int x),w4] S=if r=o then .nx [some nd,some sd,some (.dct m),some (.int x),some cd] S1 else .rt (.bl false) S1:=by
 by_cases h:r=o
 ·subst h; simp [zAp,i2,ix,c2,c3,ty,m1]
 ·simp [zAp,i2,ix,c2,c3,ty,m1,h]
theorem zF6 (c:CLL) {N:Net}{sd:D}{m:Nat}:∀ (t:List Int) (l:List (Int × Int)) (w3 w4:Option D) (S:zA0),(∀ x∈t,0≤x∧x<(N.cs.length:Int))→S[m]?=some (.dk (pk l))→l.length+t.length≤1000 →
  (zCX l (t.map (ctAt N.cs))=false∧∃ S',zAG [] (gN 3) (zAp c) (t.map D.int) [some N.d,some sd,some (.dct m),w3,w4] S=.rt (.bl false) S'∧Kp (·=m) S S')∨(zCX l (t.map (ctAt N.cs))=true∧∃ ρ' S',zAG [] (gN 3) (zAp c) (t.map D.int) [some N.d,some sd,some (.dct m),w3,w4] S=.nx ρ' S'∧Kp (·=m) S S')
 | [],l,w3,w4,S,_,_,_=>.inr ⟨rfl,_,S,by rw [qI1]; unfold zAG; rw [if_pos (zAm S)],Kp.refl _ _⟩
 | x::t,l,w3,w4,S,hx,hd,hl=>by
  have hxx:=hx x (qD4 ..)
  have g:=zCG hxx
  have i2:=zLv (N:=N) S
  have ix:oIx (.tup (N.cs.map Ct.d)) (.int x) S=.ok (ctAt N.cs x).d S:=by
   rw [zGM]
   have:=zCH (xs:=N.cs.map Ct.d) (j:=x.toNat) (v:=(ctAt N.cs x).d) (by rw [qB7,g]; rfl)
   rw [show ((x.toNat:Nat):Int)=x by omega] at this
   rw [this]
  have c2:∀ S,oIx (ctAt N.cs x).d (.int 2) S=.ok (.int (ctAt N.cs x).k) S:=fun S=>by unfold Ct.d; simp
  have c3:∀ S,oIx (ctAt N.cs x).d (.int 3) S=.ok (.int (ctAt N.cs x).o) S:=fun S=>by unfold Ct.d; simp
  have ty:tyOk "dict" (.dct m) S=true:=zOm hd rfl
  rw [qC1,qC1]
  have hgo:zCX l (ctAt N.cs x::t.map (ctAt N.cs))=match l.lookup (ctAt N.cs x).k with | some o=>(if o=(ctAt N.cs x).o then zCX l (t.map (ctAt N.cs)) else false) | none=>zCX (l++[((ctAt N.cs x).k,(ctAt N.cs x).o)]) (t.map (ctAt N.cs)):=rfl
  rw [hgo]
  have step:∀ r:RS,zAG [] (gN 3) (zAp c) (D.int x::t.map D.int) [some N.d,some sd,some (.dct m),w3,w4] S=(match zAp c [some N.d,some sd,some (.dct m),some (.int x),w4] S with | .nx ρ2 S2=>zAG [] (gN 3) (zAp c) (t.map D.int) ρ2 S2 | .ct ρ2 S2=>zAG [] (gN 3) (zAp c) (t.map D.int) ρ2 S2 | .bk ρ2 S2=>.nx ρ2 S2 | r=>r):=fun _=>by
   conv=>lhs; unfold zAG
   rw [if_pos (zAm S)]
   rfl
  rw [step (.rt .non S)]
  have hx':∀ y∈t,0≤y∧y<(N.cs.length:Int):=fun y hy=>hx y (qC0 _ hy)
  cases hv:l.lookup (ctAt N.cs x).k with
  | some o =>
   have e:=zNe c (sd:=sd) (w4:=w4) i2 ix c2 c3 ty (zMk hd hv (.int (ctAt N.cs x).o))
   rw [e]
   by_cases h:o=(ctAt N.cs x).o
   ·rw [if_pos h]
    dsimp only
    rw [if_pos h]
    exact zF6 c t l _ _ S hx' hd (by simp at hl; omega)
   ·rw [if_neg h]
    dsimp only
    rw [if_neg h]
    exact .inl ⟨rfl,S,rfl,Kp.refl _ _⟩
  | none =>
   have e:=zNe c (sd:=sd) (w4:=w4) i2 ix c2 c3 ty (zMj hd hv (by rw [zA9]; simp at hl; omega))
   rw [e,if_pos rfl]
   dsimp only
   have hlt:=(qA1.mp hd).1
   have ih:=zF6 c (sd:=sd) t (l++[((ctAt N.cs x).k,(ctAt N.cs x).o)]) (some (.int x)) (some (ctAt N.cs x).d) (S.set m (.dk (pk (l++[((ctAt N.cs x).k,(ctAt N.cs x).o)])))) hx' (qD7 hlt) (by simp at hl ⊢; omega)
   rcases ih with ⟨a,S',b,kp⟩ | ⟨a,ρ',S',b,kp⟩
   ·exact .inl ⟨a,S',b,(zBx _ _).trans kp⟩
   ·exact .inr ⟨a,ρ',S',b,(zBx _ _).trans kp⟩
theorem zUs (c:CLL) {nd:D}{ts:List D}{w2 w3 w4:Option D}{r:D}{S S1:zA0} (hl:ts.length<lim) (e:zAG [] (gN 3) (zAp c) ts [some nd,some (.tup ts),some (.dct S.length),w3,w4] (S++[.dk []])=.rt r S1):zC3 c [some nd,some (.tup ts),w2,w3,w4] S=.rt r S1:=by
 simp [zC3,hl,e]
theorem zUt (c:CLL) {nd:D}{ts:List D}{w2 w3 w4:Option D}{ρ:Env1}{S S1:zA0} (hl:ts.length<lim) (e:zAG [] (gN 3) (zAp c) ts [some nd,some (.tup ts),some (.dct S.length),w3,w4] (S++[.dk []])=.nx ρ S1):zC3 c [some nd,some (.tup ts),w2,w3,w4] S=.rt (.bl true) S1:=by
 simp [zC3,hl,e]
theorem zEy (h:zEs cl) (n:Nat) {N:Net}{t:List Int} (ht:Ixs N.cs t) (S:zA0):Spc (cl (n+1) "is_live" [N.d,tD t] S) (.bl (zAX N.cs t)) S:=by
 have hg:zCX [] (t.map (ctAt N.cs))=zAX N.cs t:=zPc (by
  rw [zEk]
  exact ⟨fun q=>q.2,fun q=>⟨fun c _ o e=>by simp at e,q⟩⟩)
 have d0:(S++[O.dk []])[S.length]?=some (.dk (pk [])):=by rw [qA0 (qB0 _)]; simp [pk]
 have hl:(t.map D.int).length<lim:=by rw [qA2,zA9]; have:=ht.1; omega
 have kx:∀ S',Kp (·=S.length) (S++[O.dk []]) S'→Ex S S':=fun S' kp=>⟨by have:=kp.le; simp at this; omega,fun j hj _=>by rw [kp.eq j (by simp; omega) (by omega),qA7 hj]⟩
 rcases zF6 (cl n) (N:=N) (sd:=tD t) (m:=S.length) t [] none none (S++[O.dk []]) ht.2 d0 (by have:=ht.1; simp; omega) with ⟨a,S',e,kp⟩ | ⟨a,ρ',S',e,kp⟩
 ·rw [hg] at a
  rw [a]
  refine ⟨S',?_,kx S' kp⟩
  rw [h]
  exact zAc rfl (zUs _ hl e)
 ·rw [hg] at a
  rw [a]
  refine ⟨S',?_,kx S' kp⟩
  rw [h]
  exact zAc rfl (zUt _ hl e)
theorem zK4:∀ (n:Nat) (st:List Int),st.length=n→(∀ b∈st,b=0∨b=1)→st∈sett n
 | 0,st,h,_=>by rw [qE6.mp h]; simp [sett]
 | n+1,[],h,_=>by simp at h
 | n+1,b::st,h,hb=>by
  have ih:=zK4 n st (by simpa using h) fun x hx=>hb x (qC0 _ hx)
  unfold sett
  rcases hb b (qD4 ..) with rfl | rfl
  ·exact qD5 _ (qC8.mpr ⟨st,ih,rfl⟩)
  ·exact qC6 _ (qC8.mpr ⟨st,ih,rfl⟩)
theorem zK5 {N:Net} (ok:N.g) {t:List Int} (ht:Ixs N.cs t) (hc:Cons (t.map (ctAt N.cs))) (f:Int→Int) (hf:∀ o,f o=0∨f o=1):∃ st∈sett N.sw.toNat,∀ x∈t,st.getD (ctAt N.cs x).k.toNat 0=f (ctAt N.cs x).o:=by
 have s1:=ok.s1
 let g:Nat→Int:=fun k=>match (t.map (ctAt N.cs)).find? fun c=>decide (c.k=(k:Int)) with
  | some c=>f c.o
  | none=>0
 have hg:∀ k,g k=0∨g k=1:=fun k=>by
  show (match (t.map (ctAt N.cs)).find? fun c=>decide (c.k=(k:Int)) with | some c=>f c.o | none=>0)=0∨(match (t.map (ctAt N.cs)).find? fun c=>decide (c.k=(k:Int)) with | some c=>f c.o | none=>0)=1
  cases (t.map (ctAt N.cs)).find? fun c=>decide (c.k=(k:Int)) with
  | some c=>exact hf _
  | none=>exact .inl rfl
 refine ⟨(List.range N.sw.toNat).map g,zK4 _ _ (by simp) fun b hb=>by obtain ⟨k,_,rfl⟩:=qC8.mp hb; exact hg k,fun x hx=>?_⟩
 have hm:ctAt N.cs x∈N.cs:=qB5 (zCG (ht.2 x hx))
 have hk:=ok.k2 _ hm
 have hlt:(ctAt N.cs x).k.toNat<N.sw.toNat:=by omega
 rw [qG4,qB7,qI4 hlt]
 show (match (t.map (ctAt N.cs)).find? fun c=>decide (c.k=(((ctAt N.cs x).k.toNat:Nat):Int)) with | some c=>f c.o | none=>0)=_
 have hxm:ctAt N.cs x∈t.map (ctAt N.cs):=qC8.mpr ⟨x,hx,rfl⟩
 have ek:(((ctAt N.cs x).k.toNat:Nat):Int)=(ctAt N.cs x).k:=by omega
 rw [ek]
 cases hq:(t.map (ctAt N.cs)).find? fun c=>decide (c.k=(ctAt N.cs x).k) with
 | none =>
  have:=qN2.mp hq _ hxm
  simp at this
 | some c =>
  have h1:=qN4 hq
  have h2:=qP1 hq
  simp only [decide_eq_true_eq] at h2
  exact congrArg f (hc c h1 _ hxm h2)
theorem zUj (c:CLL) {N:Net}{st:List Int}{x:Int}{S:zA0} (hx:0≤x∧x<(N.cs.length:Int)) (hk:∀ c∈N.cs,0≤c.k∧c.k<st.length):zB4 c [some (.int x),some (zC7 st),some N.d] S=.ok (!decide (st.getD (ctAt N.cs x).k.toNat 0=(ctAt N.cs x).o)) S∧zBh c [some (.int x),some (zC7 st),some N.d] S=.ok (decide (st.getD (ctAt N.cs x).k.toNat 0=(ctAt N.cs x).o)) S:=by
 have g:=zCG hx
 have hm:=qB5 g
 have ix:oIx (.tup (N.cs.map Ct.d)) (.int x) S=.ok (ctAt N.cs x).d S:=by
  rw [zGM]
  have:=zCH (xs:=N.cs.map Ct.d) (j:=x.toNat) (v:=(ctAt N.cs x).d) (by rw [qB7,g]; rfl)
  rw [show ((x.toNat:Nat):Int)=x by omega] at this
  rw [this]
 have i2:=zLv (N:=N) S
 have c2:oIx (ctAt N.cs x).d (.int 2) S=.ok (.int (ctAt N.cs x).k) S:=by unfold Ct.d; simp
 have c3:oIx (ctAt N.cs x).d (.int 3) S=.ok (.int (ctAt N.cs x).o) S:=by unfold Ct.d; simp
 have b1:oIx (zC7 st) (.int (ctAt N.cs x).k) S=.ok (.int (st.getD (ctAt N.cs x).k.toNat 0)) S:=by
  unfold zC7
  rw [zGM,zPQ (hk _ hm).1 (hk _ hm).2]
 generalize N.d=nd at i2
 generalize (ctAt N.cs x).d=cd at ix c2 c3
 generalize zC7 st=bd at b1
 constructor
 ·simp [zB4,i2,ix,c2,c3,b1]
 ·simp [zBh,i2,ix,c2,c3,b1]
theorem zWY (c:CLL) {nd sd:D}{ts Z:List D}{S:zA0} (hl:ts.length<lim) (e1:zAo [] .one (zB4 c) (zBw c) [none,some sd,some nd] ts S=.ok Z S) (q:oEq (.lst S.length) (.lst (S.length+1)) (S++[.lst Z,.lst []])=.ok (.bl true) (S++[.lst Z,.lst []])):zAz c [some nd,some (.tup ts),some sd] S=.rt (.bl true) (S++[.lst Z,.lst []]):=by
 simp [zAz,hl,e1,q]
theorem zWZ (c:CLL) {nd sd:D}{ts Z:List D}{S:zA0} (hl:ts.length<lim) (e1:zAo [] .one (zB4 c) (zBw c) [none,some sd,some nd] ts S=.ok Z S) (q:oEq (.lst S.length) (.lst (S.length+1)) (S++[.lst Z,.lst []])=.ok (.bl false) (S++[.lst Z,.lst []])):zAz c [some nd,some (.tup ts),some sd] S=.nx [some nd,some (.tup ts),some sd] (S++[.lst Z,.lst []]):=by
 simp [zAz,hl,e1,q]
theorem zWU (c:CLL) {nd sd:D}{ts Z:List D}{S:zA0} (hl:ts.length<lim) (e1:zAo [] .one (zBh c) (zBW c) [none,some sd,some nd] ts S=.ok Z S) (q:oEq (.lst S.length) (.lst (S.length+1)) (S++[.lst Z,.lst []])=.ok (.bl true) (S++[.lst Z,.lst []])):zAI c [some nd,some (.tup ts),some sd] S=.rt (.bl true) (S++[.lst Z,.lst []]):=by
 simp [zAI,hl,e1,q]
theorem zWV (c:CLL) {nd sd:D}{ts Z:List D}{S:zA0} (hl:ts.length<lim) (e1:zAo [] .one (zBh c) (zBW c) [none,some sd,some nd] ts S=.ok Z S) (q:oEq (.lst S.length) (.lst (S.length+1)) (S++[.lst Z,.lst []])=.ok (.bl false) (S++[.lst Z,.lst []])):zAI c [some nd,some (.tup ts),some sd] S=.nx [some nd,some (.tup ts),some sd] (S++[.lst Z,.lst []]):=by
 simp [zAI,hl,e1,q]
theorem zRO (c:CLL) {nd td r:D}{sw:Int}{k:Nat}{L:List D}{w2:Option D}{S S1 S2:zA0} (i0:oIx nd (.int 0) S=.ok (.int sw) S) (e1:c "_law_settings" [.int sw] S=.ok (.lst k) S1) (l1:zA4 S1 k=some L) (hl:L.length<lim) (e2:zAG [(k,L)] (gN 2) (zAz c) L [some nd,some td,w2] S1=.rt r S2):zAZ c [some nd,some td,w2] S=.rt r S2:=by
 simp [zAZ,i0,e1,l1,hl,e2]
theorem zRP (c:CLL) {nd td:D}{sw:Int}{k:Nat}{L:List D}{w2:Option D}{ρ:Env1}{S S1 S2:zA0} (i0:oIx nd (.int 0) S=.ok (.int sw) S) (e1:c "_law_settings" [.int sw] S=.ok (.lst k) S1) (l1:zA4 S1 k=some L) (hl:L.length<lim) (e2:zAG [(k,L)] (gN 2) (zAz c) L [some nd,some td,w2] S1=.nx ρ S2):zAZ c [some nd,some td,w2] S=.rt (.bl false) S2:=by
 simp [zAZ,i0,e1,l1,hl,e2]
theorem zRK (c:CLL) {nd td r:D}{sw:Int}{k:Nat}{L:List D}{w2:Option D}{S S1 S2:zA0} (i0:oIx nd (.int 0) S=.ok (.int sw) S) (e1:c "_law_settings" [.int sw] S=.ok (.lst k) S1) (l1:zA4 S1 k=some L) (hl:L.length<lim) (e2:zAG [(k,L)] (gN 2) (zAI c) L [some nd,some td,w2] S1=.rt r S2):zBk c [some nd,some td,w2] S=.rt r S2:=by
 simp [zBk,i0,e1,l1,hl,e2]
theorem zRL (c:CLL) {nd td:D}{sw:Int}{k:Nat}{L:List D}{w2:Option D}{ρ:Env1}{S S1 S2:zA0} (i0:oIx nd (.int 0) S=.ok (.int sw) S) (e1:c "_law_settings" [.int sw] S=.ok (.lst k) S1) (l1:zA4 S1 k=some L) (hl:L.length<lim) (e2:zAG [(k,L)] (gN 2) (zAI c) L [some nd,some td,w2] S1=.nx ρ S2):zBk c [some nd,some td,w2] S=.rt (.bl false) S2:=by
 simp [zBk,i0,e1,l1,hl,e2]
theorem zQ4 (Z:List Int) (S:zA0):oEq (.lst S.length) (.lst (S.length+1)) (S++[.lst (Z.map D.int),.lst []])=.ok (.bl (eqB (Z.map D.int) [])) (S++[.lst (Z.map D.int),.lst []]):=by
 have eS:S++[O.lst (Z.map D.int),O.lst []]=S++[O.lst (Z.map D.int)]++[O.lst []]:=by simp
 have q:=zGN (S:=S++[O.lst (Z.map D.int)]++[O.lst []]) (zAd (zA2 S _)) (zA2 (S++[O.lst (Z.map D.int)]) []) (qC2.mpr (zBf (by omega) _)) rfl
 rw [← eS,show (S++[O.lst (Z.map D.int)]).length=S.length+1 by simp] at q
 exact q
theorem zLN (h:zD9 cl) (hs:zAK cl) (n:Nat) {N:Net} (ok:N.g) {t:List Int} (ht:Ixs N.cs t) (S:zA0):Spc (cl (n+2) "_law_alive" [N.d,tD t] S) (.bl (zAX N.cs t)) S:=by
 obtain ⟨k,S1,e1,x1,le1,l1⟩:=zCv hs n ok.s1 ok.s2 S
 have hl:(t.map D.int).length<lim:=by rw [qA2,zA9]; have:=ht.1; omega
 have hse:((sett N.sw.toNat).map zC7).length<lim:=by
  rw [qA2,zGD,zA9]
  exact qH6 (qE9 (by omega) (show N.sw.toNat≤4 by have:=ok.s2; omega)) (by decide)
 have hf:=zF4 zC7 (w:=[(k,(sett N.sw.toNat).map zC7)]) (g:=gN 2) (b:=zAz (cl (n+1))) (fun ρ S'=>(∃ v2,ρ=[some N.d,some (tD t),v2])∧Ex S1 S') (fun S'=>Ex S1 S') (fun ρ S' hp=>zBD (hp.2.lst l1 fun z=>z))
  (fun st=>t.all fun x=>decide (st.getD (ctAt N.cs x).k.toNat 0=(ctAt N.cs x).o)) (fun _=>.bl true) (sett N.sw.toNat) (ρ:=[some N.d,some (tD t),none]) (S:=S1) ⟨⟨none,rfl⟩,Kp.refl _ _⟩ (fun st hst ρ S' hp=>by
   obtain ⟨⟨v2,rfl⟩,hx⟩:=hp
   have hk:=ok.ks ⟨sett_len' ok hst⟩
   have e3:zAo [] .one (zB4 (cl (n+1))) (zBw (cl (n+1))) [none,some (zC7 st),some N.d] (t.map D.int) S'=.ok ((t.filter fun x=>!decide (st.getD (ctAt N.cs x).k.toNat 0=(ctAt N.cs x).o)).map D.int) S' :=
    zAT D.int (zAm S') _ _ _ fun x hx=>⟨[some (.int x),some (zC7 st),some N.d],rfl,(zUj _ (ht.2 x hx) hk).1,fun _=>by simp [zBw]⟩
   have q:=zQ4 (t.filter fun x=>!decide (st.getD (ctAt N.cs x).k.toNat 0=(ctAt N.cs x).o)) S'
   have eb:eqB ((t.filter fun x=>!decide (st.getD (ctAt N.cs x).k.toNat 0=(ctAt N.cs x).o)).map D.int) []=t.all fun x=>decide (st.getD (ctAt N.cs x).k.toNat 0=(ctAt N.cs x).o):=by
    apply zAF
    rw [zBi,qK2,qJ2,qC2]
    simp
   rw [eb] at q
   refine ⟨[some N.d,some (tD t),some (zC7 st)],S',rfl,?_⟩
   cases hb:t.all fun x=>decide (st.getD (ctAt N.cs x).k.toNat 0=(ctAt N.cs x).o) with
   | true=>rw [hb] at q; exact .inl ⟨rfl,_,zWY _ hl e3 q,hx.trans (zA8 _ _)⟩
   | false=>rw [hb] at q; exact .inr ⟨rfl,_,_,.inl (zWZ _ hl e3 q),⟨_,rfl⟩,hx.trans (zA8 _ _)⟩)
 have i0:oIx N.d (.int 0) S=.ok (.int N.sw) S:=by unfold Net.d; simp
 rcases hf with ⟨st,S3,h1,e3,x3⟩ | ⟨ρ',S3,h1,e3,_,x3⟩
 ·have hp0:=qP1 h1
  have hp:=qC2.mp hp0
  have:zAX N.cs t=true:=zCY.mpr fun a ha b hb hab=>by
   obtain ⟨x,hx,rfl⟩:=qC8.mp ha
   obtain ⟨y,hy,rfl⟩:=qC8.mp hb
   have p1:=of_decide_eq_true (hp x hx)
   have p2:=of_decide_eq_true (hp y hy)
   rw [← p1,← p2,hab]
  rw [this]
  refine ⟨S3,?_,x1.trans x3⟩
  rw [show n+2=(n+1)+1 from rfl,h]
  exact zAc rfl (zRO _ i0 e1 l1 hse e3)
 ·have:zAX N.cs t=false:=by
   cases hq:zAX N.cs t with
   | false=>rfl
   | true =>
    obtain ⟨st,hst,hst2⟩:=zK5 ok ht (zCY.mp hq) (fun o=>if o=1 then 1 else 0) (fun o=>by split <;> simp)
    have:=qN2.mp h1 st hst
    refine absurd (qC2.mpr fun x hx=>decide_eq_true ?_) this
    have hm:ctAt N.cs x∈N.cs:=qB5 (zCG (ht.2 x hx))
    obtain ⟨_,_,_,_,_,o0,o1⟩:=ok.c2 _ hm
    rw [hst2 x hx]
    split <;> omega
  rw [this]
  refine ⟨S3,?_,x1.trans x3⟩
  rw [show n+2=(n+1)+1 from rfl,h]
  exact zAc rfl (zRP _ i0 e1 l1 hse e3)
theorem zME (h:zDE cl) (hs:zAK cl) (n:Nat) {N:Net} (ok:N.g) {t:List Int} (ht:Ixs N.cs t) (S:zA0):Spc (cl (n+2) "_law_open" [N.d,tD t] S) (.bl (zAX N.cs t)) S:=by
 obtain ⟨k,S1,e1,x1,le1,l1⟩:=zCv hs n ok.s1 ok.s2 S
 have hl:(t.map D.int).length<lim:=by rw [qA2,zA9]; have:=ht.1; omega
 have hse:((sett N.sw.toNat).map zC7).length<lim:=by
  rw [qA2,zGD,zA9]
  exact qH6 (qE9 (by omega) (show N.sw.toNat≤4 by have:=ok.s2; omega)) (by decide)
 have hf:=zF4 zC7 (w:=[(k,(sett N.sw.toNat).map zC7)]) (g:=gN 2) (b:=zAI (cl (n+1))) (fun ρ S'=>(∃ v2,ρ=[some N.d,some (tD t),v2])∧Ex S1 S') (fun S'=>Ex S1 S') (fun ρ S' hp=>zBD (hp.2.lst l1 fun z=>z))
  (fun st=>t.all fun x=>!decide (st.getD (ctAt N.cs x).k.toNat 0=(ctAt N.cs x).o)) (fun _=>.bl true) (sett N.sw.toNat) (ρ:=[some N.d,some (tD t),none]) (S:=S1) ⟨⟨none,rfl⟩,Kp.refl _ _⟩ (fun st hst ρ S' hp=>by
   obtain ⟨⟨v2,rfl⟩,hx⟩:=hp
   have hk:=ok.ks ⟨sett_len' ok hst⟩
   have e3:zAo [] .one (zBh (cl (n+1))) (zBW (cl (n+1))) [none,some (zC7 st),some N.d] (t.map D.int) S'=.ok ((t.filter fun x=>decide (st.getD (ctAt N.cs x).k.toNat 0=(ctAt N.cs x).o)).map D.int) S' :=
    zAT D.int (zAm S') _ _ _ fun x hx=>⟨[some (.int x),some (zC7 st),some N.d],rfl,(zUj _ (ht.2 x hx) hk).2,fun _=>by simp [zBW]⟩
   have q:=zQ4 (t.filter fun x=>decide (st.getD (ctAt N.cs x).k.toNat 0=(ctAt N.cs x).o)) S'
   have eb:eqB ((t.filter fun x=>decide (st.getD (ctAt N.cs x).k.toNat 0=(ctAt N.cs x).o)).map D.int) []=t.all fun x=>!decide (st.getD (ctAt N.cs x).k.toNat 0=(ctAt N.cs x).o):=by
    apply zAF
    rw [zBi,qK2,qJ2,qC2]
    simp
   rw [eb] at q
   refine ⟨[some N.d,some (tD t),some (zC7 st)],S',rfl,?_⟩
   cases hb:t.all fun x=>!decide (st.getD (ctAt N.cs x).k.toNat 0=(ctAt N.cs x).o) with
   | true=>rw [hb] at q; exact .inl ⟨rfl,_,zWU _ hl e3 q,hx.trans (zA8 _ _)⟩
   | false=>rw [hb] at q; exact .inr ⟨rfl,_,_,.inl (zWV _ hl e3 q),⟨_,rfl⟩,hx.trans (zA8 _ _)⟩)
 have i0:oIx N.d (.int 0) S=.ok (.int N.sw) S:=by unfold Net.d; simp
 rcases hf with ⟨st,S3,h1,e3,x3⟩ | ⟨ρ',S3,h1,e3,_,x3⟩
 ·have hp0:=qP1 h1
  have hp:=qC2.mp hp0
  have hstm:=qN4 h1
  have bits:=(zDJ _ st hstm).2
  have hks:=ok.ks ⟨sett_len' ok hstm⟩
  have:zAX N.cs t=true:=zCY.mpr fun a ha b hb hab=>by
   obtain ⟨x,hx,rfl⟩:=qC8.mp ha
   obtain ⟨y,hy,rfl⟩:=qC8.mp hb
   have p1:¬ st.getD (ctAt N.cs x).k.toNat 0=(ctAt N.cs x).o:=by simpa using hp x hx
   have p2:¬ st.getD (ctAt N.cs y).k.toNat 0=(ctAt N.cs y).o:=by simpa using hp y hy
   have mx:ctAt N.cs x∈N.cs:=qB5 (zCG (ht.2 x hx))
   have my:ctAt N.cs y∈N.cs:=qB5 (zCG (ht.2 y hy))
   obtain ⟨_,_,_,_,_,o0,o1⟩:=ok.c2 _ mx
   obtain ⟨_,_,_,_,_,q0,q1⟩:=ok.c2 _ my
   have hb2:st.getD (ctAt N.cs x).k.toNat 0=0∨st.getD (ctAt N.cs x).k.toNat 0=1:=by
    have hlt:(ctAt N.cs x).k.toNat<st.length:=by have:=hks _ mx; omega
    rw [qG4,qA6 hlt]
    exact bits _ (qE3 hlt)
   rw [← hab] at p2
   omega
  rw [this]
  refine ⟨S3,?_,x1.trans x3⟩
  rw [show n+2=(n+1)+1 from rfl,h]
  exact zAc rfl (zRK _ i0 e1 l1 hse e3)
 ·have:zAX N.cs t=false:=by
   cases hq:zAX N.cs t with
   | false=>rfl
   | true =>
    obtain ⟨st,hst,hst2⟩:=zK5 ok ht (zCY.mp hq) (fun o=>if o=1 then 0 else 1) (fun o=>by split <;> simp)
    have:=qN2.mp h1 st hst
    refine absurd (qC2.mpr fun x hx=>?_) this
    have hm:ctAt N.cs x∈N.cs:=qB5 (zCG (ht.2 x hx))
    obtain ⟨_,_,_,_,_,o0,o1⟩:=ok.c2 _ hm
    rw [hst2 x hx]
    have:¬ (if (ctAt N.cs x).o=1 then (0:Int) else 1)=(ctAt N.cs x).o:=by split <;> omega
    simp [this]
  rw [this]
  refine ⟨S3,?_,x1.trans x3⟩
  rw [show n+2=(n+1)+1 from rfl,h]
  exact zAc rfl (zRL _ i0 e1 l1 hse e3)
structure HL23 (cl:Nat→CLL):Prop where
 d:HD cl
 w:HW cl
 b:HBr cl
 s:HLs cl
 pa:zD8 cl
 sa:zDD cl
 ls:zAK cl
 il:zEs cl
 lw:zEC cl
 lb:zED cl
 al:zD9 cl
 op:zDE cl
theorem zRB (c:CLL) {nd:D}{k:Nat}{L Z:List D}{S S1 S2:zA0} (e1:c "all_ways" [nd] S=.ok (.lst k) S1) (l1:zA4 S1 k=some L) (hl:L.length<lim) (e2:zAo [(k,L)] .one (zCa c) (zCb c) [none,some nd] L S1=.ok Z S2):zBY c [some nd] S=.rt (.lst S2.length) (S2++[.lst Z]):=by
 simp [zBY,e1,l1,hl,e2]
theorem zRN (c:CLL) {nd:D}{k:Nat}{L Z:List D}{S S1 S2:zA0} (e1:c "all_bars" [nd] S=.ok (.lst k) S1) (l1:zA4 S1 k=some L) (hl:L.length<lim) (e2:zAo [(k,L)] .one (zCc c) (zCd c) [none,some nd] L S1=.ok Z S2):zBZ c [some nd] S=.rt (.lst S2.length) (S2++[.lst Z]):=by
 simp [zBZ,e1,l1,hl,e2]
theorem zFJ (H:HL23 cl) (n:Nat) {N:Net} (ok:N.g) (S:zA0):LstR (cl (n+11) "live_ways" [N.d] S) S (((zCm N).filter (zAX N.cs)).map tD):=by
 obtain ⟨k,S1,e1,x1,le1,l1⟩:=zHd H.w n ok S
 obtain ⟨S2,e2,x2⟩:=zBq tD (w:=[(k,(zCm N).map tD)]) (t:=.one) (tc:=zCa (cl (n+10))) (c:=zCb (cl (n+10))) (ρ0:=[none,some N.d]) (fun S'=>Ex S1 S') (fun S' hx=>zBD (hx.lst l1 fun z=>z))
  (zAX N.cs) tD (zCm N) (S:=S1) (Kp.refl _ _) (fun t ht S' hx=>by
   obtain ⟨S5,e5,x5⟩:=zEy H.il (n+9) (zLY ok t ht) S'
   exact ⟨[some (tD t),some N.d],rfl,S5,by simp [zCa,e5],fun _=>hx.trans x5,fun _=>⟨S5,by simp [zCb],hx.trans x5⟩⟩)
 have hl:((zCm N).map tD).length<lim:=by rw [qA2,zA9]; have:=zJX ok; omega
 refine ⟨_,_,?_,(x1.trans x2).trans (zA8 _ _),?_,zA2 _ _⟩
 ·rw [show n+11=(n+10)+1 from rfl,H.lw]
  exact zAc rfl (zRB _ e1 l1 hl e2)
 ·have:=x1.le; have:=x2.le; omega
theorem zFK (H:HL23 cl) (n:Nat) {N:Net} (ok:N.g) {L:List (List Int)} (hL:zDt N.cs L) (S:zA0):LstR (cl (n+6) "live_bars" [N.d] S) S ((L.filter (zAX N.cs)).map tD):=by
 obtain ⟨L',hL',Ll,k,S1,e1,x1,le1,l1⟩:=zHe H.b n ok S
 have:=hL'.uniq hL
 subst this
 obtain ⟨S2,e2,x2⟩:=zBq tD (w:=[(k,L'.map tD)]) (t:=.one) (tc:=zCc (cl (n+5))) (c:=zCd (cl (n+5))) (ρ0:=[none,some N.d]) (fun S'=>Ex S1 S') (fun S' hx=>zBD (hx.lst l1 fun z=>z))
  (zAX N.cs) tD L' (S:=S1) (Kp.refl _ _) (fun t ht S' hx=>by
   obtain ⟨S5,e5,x5⟩:=zEy H.il (n+4) (hL'.ix ok t ht) S'
   exact ⟨[some (tD t),some N.d],rfl,S5,by simp [zCc,e5],fun _=>hx.trans x5,fun _=>⟨S5,by simp [zCd],hx.trans x5⟩⟩)
 have hl:(L'.map tD).length<lim:=by rw [qA2,zA9]; omega
 refine ⟨_,_,?_,(x1.trans x2).trans (zA8 _ _),?_,zA2 _ _⟩
 ·rw [show n+6=(n+5)+1 from rfl,H.lb]
  exact zAc rfl (zRN _ e1 l1 hl e2)
 ·have:=x1.le; have:=x2.le; omega
theorem zOG (c:CLL) {nd:D}{ka kb kw ko:Nat}{w0 w1 w2 w6 w7 w8:Option D}{S S1 S2 S3 S4:zA0} (e1:c "live_ways" [nd] S=.ok (.lst ka) S1) (e2:c "live_bars" [nd] S1=.ok (.lst kb) S2) (q1:c "_law_same" [.lst ka,.lst kw] S2=.ok (.bl true) S2) (q2:c "_law_same" [.lst kb,.lst ko] S2=.ok (.bl true) S2)
  (t1:tyOk "list" (.lst ka) S2=true) (m1:zBg zAy (.lst ka) [.tup []] S2=.ok .non S3) (t2:tyOk "list" (.lst kb) S3=true) (m2:zBg zAy (.lst kb) [.tup []] S3=.ok .non S4) :
  zCZ c [w0,w1,w2,some nd,some (.lst kw),some (.lst ko),w6,w7,w8] S=.nx [w0,w1,w2,some nd,some (.lst kw),some (.lst ko),w6,some (.lst ka),some (.lst kb)] S4:=by
 simp [zCZ,e1,e2,q1,q2,t1,m1,t2,m2]
theorem zPf (c:CLL) {sc nd:D}{i j k4 k5:Nat}{jj r mo:Int}{L4 L5 Z4 Z5:List D}{w2 w3 w4 w5 w6 w7 w8:Option D}{ρ:Env1}{S S1 S2 S3 S4 S5 S6 S7 S8 S9 S10:zA0} (e1:c "_law_state" [sc,.int jj] S=.ok (.lst i) S1) (h2:S1++[.lst [.int 6,.int 9,.int 12]]=S2) (hj:S1.length=j) (e3:c "_law_take" [.lst i,.int 3] S2=.ok (.int r) S3) (em:oIx (.lst j) (.int r) S3=.ok (.int mo) S3)
  (e4:c "_law_net" [.lst i,.int 4,.int 7,.int mo] S3=.ok nd S4) (e5:c "_law_paths" [nd] S4=.ok (.lst k4) S5) (l5:zA4 S5 k4=some L4) (hl4:L4.length<lim) (e6:zAo [(k4,L4)] .one (zDT c) (zDV c) [none,some nd] L4 S5=.ok Z4 S6) (h7:S6++[.lst Z4]=S7)
  (e7:c "_law_shuts" [nd] S7=.ok (.lst k5) S8) (l8:zA4 S8 k5=some L5) (hl5:L5.length<lim) (e8:zAo [(k5,L5)] .one (zDU c) (zDW c) [none,some nd] L5 S8=.ok Z5 S9)
  (e9:zAG [] (gN 6) (zCZ c) (upD 0 2) [some sc,some (.int jj),some (.lst i),some nd,some (.lst S6.length),some (.lst S9.length),w6,w7,w8] (S9++[.lst Z5])=.nx ρ S10) :
  zD0 c [some sc,some (.int jj),w2,w3,w4,w5,w6,w7,w8] S=.nx ρ S10:=by
 have hl:(upD 0 2).length<lim:=by rw [zA9]; decide
 have h2':((2:Int).toNat)=2:=rfl
 simp [zD0,e1,h2,hj,e3,em,e4,e5,l5,hl4,e6,h7,e7,l8,hl5,e8,h2',hl,e9]
theorem zWd (H:HL23 cl) (n:Nat) (ns:List Int) {sc:D} (hsc:D.rol (ns.map D.int)=sc) (jj:Int) (hj:0≤jj) (S:zA0) (w2 w3 w4 w5 w6 w7 w8:Option D):∃ v2 v3 v4 v5 v6 v7 v8 S',zD0 (cl (n+12)) [some sc,some (.int jj),w2,w3,w4,w5,w6,w7,w8] S=.nx [some sc,some (.int jj),v2,v3,v4,v5,v6,v7,v8] S':=by
 obtain ⟨S1,e1,x1,st1⟩:=zKT H.d.st H.d.ce (n+10) ns jj hj S
 rw [hsc] at e1
 obtain ⟨i0,hi0⟩:∃ i0,S.length=i0:=⟨_,rfl⟩
 rw [hi0] at e1 st1
 have x2:=zA8 S1 [.lst [.int 6,.int 9,.int 12]]
 obtain ⟨r1,S3,e3,b1,b2,k3,n3,st3⟩:=zAw H.d.ta (n+11) (st1.ex x2) (m:=3) (by decide) (by decide)
 have l3:zA4 S3 S1.length=some [.int 6,.int 9,.int 12]:=k3.lst (zA2 _ _) (by have:=st1.lt; omega)
 obtain ⟨mo,em,mo1,mo2⟩:∃ mo,oIx (.lst S1.length) (.int r1) S3=.ok (.int mo) S3∧0≤mo∧mo≤16:=by
  have e:=zEX l3 r1
  have:r1=0∨r1=1∨r1=2:=by omega
  rcases this with rfl | rfl | rfl
  ·exact ⟨6,by rw [e]; rfl,by decide,by decide⟩
  ·exact ⟨9,by rw [e]; rfl,by decide,by decide⟩
  ·exact ⟨12,by rw [e]; rfl,by decide,by decide⟩
 obtain ⟨N,S4,e4,okN,k4',st4⟩:=zP6 H.d.ne H.d.en H.d.ta (n+9) st3 (ms:=4) (mp:=7) (mc:=mo) (by decide) (by decide) ⟨mo1,mo2⟩
 have ok:N.g:=okN.up (by decide) (by decide) mo2
 have wf:=zJX ok
 obtain ⟨k4,S5,e5,x5,le5,l5⟩:=zFO H.pa (n+11) ok S4
 obtain ⟨S6,e6,x6⟩:=zBq tD (w:=[(k4,(zCm N).map tD)]) (t:=.one) (tc:=zDT (cl (n+12))) (c:=zDV (cl (n+12))) (ρ0:=[none,some N.d]) (fun S'=>Ex S5 S') (fun S' hx=>zBD (hx.lst l5 fun z=>z))
  (zAX N.cs) tD (zCm N) (S:=S5) (Kp.refl _ _) (fun t ht S' hx=>by
   obtain ⟨S7,e7,x7⟩:=zLN H.al H.ls (n+10) ok (zLY ok t ht) S'
   exact ⟨[some (tD t),some N.d],rfl,S7,by simp [zDT,e7],fun _=>hx.trans x7,fun _=>⟨S7,by simp [zDV],hx.trans x7⟩⟩)
 obtain ⟨S7,h7⟩:∃ S7,S6++[O.lst (((zCm N).filter (zAX N.cs)).map tD)]=S7:=⟨_,rfl⟩
 have lw7:zA4 S7 S6.length=some (((zCm N).filter (zAX N.cs)).map tD):=by rw [← h7]; exact zA2 _ _
 obtain ⟨L,hL,Ll,k5,S8,e8,x8,le8,l8⟩:=zFN H.s (n+10) ok S7
 obtain ⟨S9,e9,x9⟩:=zBq tD (w:=[(k5,L.map tD)]) (t:=.one) (tc:=zDU (cl (n+12))) (c:=zDW (cl (n+12))) (ρ0:=[none,some N.d]) (fun S'=>Ex S8 S') (fun S' hx=>zBD (hx.lst l8 fun z=>z))
  (zAX N.cs) tD L (S:=S8) (Kp.refl _ _) (fun t ht S' hx=>by
   obtain ⟨S7,e7,x7⟩:=zME H.op H.ls (n+10) ok (hL.ix ok t ht) S'
   exact ⟨[some (tD t),some N.d],rfl,S7,by simp [zDU,e7],fun _=>hx.trans x7,fun _=>⟨S7,by simp [zDW],hx.trans x7⟩⟩)
 obtain ⟨S0,h0⟩:∃ S0,S9++[O.lst ((L.filter (zAX N.cs)).map tD)]=S0:=⟨_,rfl⟩
 have lo0:zA4 S0 S9.length=some ((L.filter (zAX N.cs)).map tD):=by rw [← h0]; exact zA2 _ _
 have lw0:zA4 S0 S6.length=some (((zCm N).filter (zAX N.cs)).map tD):=by
  rw [← h0]
  exact zAd ((x8.trans x9).lst lw7 fun z=>z)
 have fw:=zNs (L:=(zCm N).filter (zAX N.cs)) (fun t ht=>zHo ok t (qE4.mp ht).1) (qC5 (qD8 ..) wf)
 have fb:=zNs (L:=L.filter (zAX N.cs)) (fun t ht=>hL.few ok t (qE4.mp ht).1) (by have:=qD8 (zAX N.cs) L; omega)
 have kw0:=zC9 lw0
 have ko0:=zC9 lo0
 obtain ⟨ρ',S10,e10,v6,v7,v8,rfl,x10⟩:=zAW (w:=[]) (g:=gN 6) (b:=zCZ (cl (n+12))) (items:=upD 0 2)
  (fun i ρ S'=>∃ v6 v7 v8,ρ=[some sc,some (.int jj),some (.lst i0),some N.d,some (.lst S6.length),some (.lst S9.length),v6,v7,v8]∧Ex S0 S') (ρ:=[some sc,some (.int jj),some (.lst i0),some N.d,some (.lst S6.length),some (.lst S9.length),w6,w7,w8]) (S:=S0) (fun _ _ _ _=>zAm _) ⟨w6,w7,w8,rfl,Kp.refl _ _⟩
  (fun i d ρ S' hd hp=>by
   obtain ⟨v6,v7,v8,rfl,x⟩:=hp
   obtain ⟨ka,T4,f4,y4,lf4,m4⟩:=zFJ H (n+1) ok S'
   obtain ⟨kb,T5,f5,y5,lf5,m5⟩:=zFK H (n+6) ok hL T4
   have xs:Ex S0 T5:=(x.trans y4).trans y5
   have la:zA4 T5 ka=some (((zCm N).filter (zAX N.cs)).map tD):=y5.lst m4 fun z=>z
   have q1:=zK6 H.sa (n+11) la (xs.lst lw0 fun z=>z) fw.1 fw.2
   have q2:=zK6 H.sa (n+11) m5 (xs.lst lo0 fun z=>z) fb.1 fb.2
   have m1:=zKK (x:=.tup []) la (by rw [qA2,zA9]; have:=qD8 (zAX N.cs) (zCm N); omega)
   have ka4:ka<T4.length:=zC9 m4
   have kne:¬ kb=ka:=by omega
   have lb:zA4 (T5.set ka (.lst (((zCm N).filter (zAX N.cs)).map tD++[.tup []]))) kb=some ((L.filter (zAX N.cs)).map tD):=(zBx _ _).lst m5 kne
   have m2:=zKK (x:=.tup []) lb (by rw [qA2,zA9]; have:=qD8 (zAX N.cs) L; omega)
   refine ⟨[some sc,some (.int jj),some (.lst i0),some N.d,some (.lst S6.length),some (.lst S9.length),some d,v7,v8],S',rfl,_,_,.inl (zOG _ f4 f5 q1 q2 (zB5 la) m1 (zB5 lb) m2),_,_,_,rfl,?_⟩
   refine ⟨by simp; exact xs.le,fun j hj _=>?_⟩
   have hx:=x.le
   have hy:=y4.le
   have hz:=y5.le
   rw [(zBx (i:=kb) _ _).eq j (by simp; omega) (by omega),(zBx (i:=ka) _ _).eq j (by omega) (by omega)]
   exact xs.eq j hj fun z=>z)
 rw [← h0] at e10
 exact ⟨_,_,_,_,_,_,_,S10,zPf _ e1 rfl rfl e3 em e4 e5 l5 (by rw [qA2,zA9]; omega) e6 h7 e8 l8 (by rw [qA2,zA9]; omega) e9 e10⟩
theorem zWX (h:zIL cl) (H:HL23 cl) (n:Nat) (ns:List Int):∃ S',cl (n+13) "law" [.rol (ns.map D.int)] []=.ok (.bl true) S':=by
 rw [show n+13=(n+12)+1 from rfl,h]
 generalize hsc:D.rol (ns.map D.int)=sc
 have hm:∃ q:Int,(if (if (8:Int)<(ns.length:Int) then 8 else (ns.length:Int))>1 then (if (8:Int)<(ns.length:Int) then 8 else (ns.length:Int)) else 1)=q∧0≤q∧q≤8:=⟨_,rfl,by split <;> (try split) <;> omega,by split <;> (try split) <;> omega⟩
 obtain ⟨q,hq,q0,q6⟩:=hm
 obtain ⟨ρ',S1,e1,v1,v2,v3,v4,v5,v6,v7,v8,rfl⟩:=zAW (w:=[]) (g:=gN 1) (b:=zD0 (cl (n+12))) (items:=upD 0 q.toNat)
  (fun j ρ S=>∃ v1 v2 v3 v4 v5 v6 v7 v8,ρ=[some sc,v1,v2,v3,v4,v5,v6,v7,v8]) (ρ:=[some sc,none,none,none,none,none,none,none,none]) (S:=[])
  (fun j ρ S hp=>zAm _) ⟨none,none,none,none,none,none,none,none,rfl⟩
  (fun j d ρ S hd hp=>by
   obtain ⟨v1,v2,v3,v4,v5,v6,v7,v8,rfl⟩:=hp
   rw [zIP] at hd
   obtain ⟨hj,rfl⟩:=hd
   obtain ⟨u2,u3,u4,u5,u6,u7,u8,S2,e2⟩:=zWd H n ns hsc (0+(j:Int)) (by omega) S v2 v3 v4 v5 v6 v7 v8
   exact ⟨_,_,rfl,_,S2,.inl e2,_,_,_,_,_,_,_,_,rfl⟩)
 refine ⟨S1,zAc rfl ?_⟩
 have f2:-4611686018427387904≤q∧q<4611686018427387904:=by omega
 rw [← hsc] at e1 ⊢
 simp [zEO,zAu,hq,f2,e1]
end My
set_option maxHeartbeats 4000000
namespace My
open PySem L2
noncomputable def tbl:Tbl:=[(("is_whole":Str),(1,1,zBl)),
 (("places_from":Str),(2,5,zBK)),
 (("joins":Str),(1,1,zHc)),
 (("is_choice":Str),(2,2,zC4)),
 (("without":Str),(2,2,zE4)),
 (("join_beside":Str),(2,2,zBc)),
 (("is_bar":Str),(2,2,zE6)),
 (("far_end":Str),(2,2,zCB)),
 (("ways_on":Str),(3,7,zBX)),
 (("all_ways":Str),(1,1,zCC)),
 (("halves_with_start":Str),(1,3,zAj)),
 (("out_of":Str),(2,2,zE5)),
 (("all_bars":Str),(1,4,zCD)),
 (("is_live":Str),(2,5,zC3)),
 (("live_ways":Str),(1,1,zBY)),
 (("live_bars":Str),(1,1,zBZ)),
 (("_law_cell_at":Str),(2,2,zBb)),
 (("_law_state":Str),(2,3,zC0)),
 (("_law_take":Str),(2,4,zCy)),
 (("_law_ends":Str),(2,5,zCA)),
 (("_law_net":Str),(4,13,zCz)),
 (("_law_paths":Str),(1,7,zC2)),
 (("_law_within":Str),(2,2,zBC)),
 (("_law_shuts":Str),(1,5,zC1)),
 (("_law_settings":Str),(1,3,zBr)),
 (("_law_alive":Str),(2,3,zAZ)),
 (("_law_open":Str),(2,3,zBk)),
 (("_law_same":Str),(2,2,zDj)),
 (("law":Str),(1,9,zEO))]
noncomputable def top (i:Nat):Stmt:=PySem.Challenge.pw_contactnets_k23_live_ways_and_bars.main.body.getD i (.Pass ⟨0,0,0,0⟩)
theorem hk {f g:Nat→List D→M D} (h:f=g) (n:Nat):f n=g n:=congrFun h n
noncomputable abbrev zCr:Stmt:=top 1
noncomputable abbrev zB6:Stmt:=top 2
noncomputable abbrev zET:Stmt:=top 3
noncomputable abbrev zBT:Stmt:=top 5
noncomputable abbrev zCR:Stmt:=top 6
noncomputable abbrev zB8:Stmt:=top 7
noncomputable abbrev zDL:Stmt:=top 8
noncomputable abbrev zCV:Stmt:=top 9
noncomputable abbrev zCS:Stmt:=top 10
noncomputable abbrev zCs:Stmt:=top 11
noncomputable abbrev zAi:Stmt:=top 12
noncomputable abbrev zDK:Stmt:=top 13
noncomputable abbrev zCt:Stmt:=top 14
noncomputable abbrev zCU:Stmt:=top 15
noncomputable abbrev zBN:Stmt:=top 16
noncomputable abbrev zBO:Stmt:=top 17
noncomputable abbrev zB7:Stmt:=top 19
noncomputable abbrev zBP:Stmt:=top 20
noncomputable abbrev zCn:Stmt:=top 21
noncomputable abbrev zCq:Stmt:=top 22
noncomputable abbrev zCT:Stmt:=top 23
noncomputable abbrev zBR:Stmt:=top 24
noncomputable abbrev zBu:Stmt:=top 25
noncomputable abbrev zBQ:Stmt:=top 26
noncomputable abbrev zAR:Stmt:=top 27
noncomputable abbrev zBS:Stmt:=top 28
noncomputable abbrev zCp:Stmt:=top 29
noncomputable abbrev zCo:Stmt:=top 30
noncomputable abbrev zHE:Stmt:=top 31
abbrev CKp (x:Str) (N:List Str) (st:Stmt) (b:CLL→CS):Prop:=(fun cl:CLL=>cSts (arT tbl) cl 60 ⟨N,(zA3 st).names,some x⟩ (zAJ st))=fun cl=>some (b cl)
theorem zJp:fnOk ["thing"] ["thing"] (zA3 zCr)=true:=by decide +kernel
theorem zJg:zDF (zAs tbl):=hk (by kernel_rfl)
theorem zJB:CKp "is_whole" ["thing"] zCr zBl:=by kernel_rfl
theorem zFT:fnOk ["start","contacts","found","grown","contact"] ["start","contacts"] (zA3 zB6)=true:=by decide +kernel
theorem zFP:zAU (zAs tbl):=hk (by kernel_rfl)
theorem zFW:CKp "places_from" ["start","contacts","found","grown","contact"] zB6 zBK:=by kernel_rfl
theorem zPA:fnOk ["contacts"] ["contacts"] (zA3 zET)=true:=by decide +kernel
theorem zPv:zHi (zAs tbl):=hk (by kernel_rfl)
theorem zPG:CKp "joins" ["contacts"] zET zHc:=by kernel_rfl
theorem zI7:fnOk ["net","thing"] ["net","thing"] (zA3 zBT)=true:=by decide +kernel
theorem zI0:zEF (zAs tbl):=hk (by kernel_rfl)
theorem zIk:CKp "is_choice" ["net","thing"] zBT zC4:=by kernel_rfl
theorem zLn:fnOk ["some","number"] ["some","number"] (zA3 zCR)=true:=by decide +kernel
theorem zLf:zEq (zAs tbl):=hk (by kernel_rfl)
theorem zLy:CKp "without" ["some","number"] zCR zE4:=by kernel_rfl
theorem zFV:fnOk ["net","some"] ["net","some"] (zA3 zB8)=true:=by decide +kernel
theorem zFR:zDs (zAs tbl):=hk (by kernel_rfl)
theorem zFY:CKp "join_beside" ["net","some"] zB8 zBc:=by kernel_rfl
theorem zNq:fnOk ["net","thing"] ["net","thing"] (zA3 zDL)=true:=by decide +kernel
theorem zNi:zIM (zAs tbl):=hk (by kernel_rfl)
theorem zNR:CKp "is_bar" ["net","thing"] zDL zE6:=by kernel_rfl
theorem zLr:fnOk ["contact","place"] ["contact","place"] (zA3 zCV)=true:=by decide +kernel
theorem zLj:zEt (zAs tbl):=hk (by kernel_rfl)
theorem zLC:CKp "far_end" ["contact","place"] zCV zCB:=by kernel_rfl
theorem zLo:fnOk ["contacts","been","taken","found","number","contact","far"] ["contacts","been","taken"] (zA3 zCS)=true:=by decide +kernel
theorem zLg:zGx (zAs tbl):=hk (by kernel_rfl)
theorem zLz:CKp "ways_on" ["contacts","been","taken","found","number","contact","far"] zCS zBX:=by kernel_rfl
theorem zJq:fnOk ["net"] ["net"] (zA3 zCs)=true:=by decide +kernel
theorem zJh:zFG (zAs tbl):=hk (by kernel_rfl)
theorem zJC:CKp "all_ways" ["net"] zCs zCC:=by kernel_rfl
theorem zDm:fnOk ["places","told","place"] ["places"] (zA3 zAi)=true:=by decide +kernel
theorem zDl:zAQ (zAs tbl):=hk (by kernel_rfl)
theorem zDn:CKp "halves_with_start" ["places","told","place"] zAi zAj:=by kernel_rfl
theorem zNp:fnOk ["net","half"] ["net","half"] (zA3 zDK)=true:=by decide +kernel
theorem zNh:zFF (zAs tbl):=hk (by kernel_rfl)
theorem zNQ:CKp "out_of" ["net","half"] zDK zE5:=by kernel_rfl
theorem zJr:fnOk ["net","found","half","some"] ["net"] (zA3 zCt)=true:=by decide +kernel
theorem zJi:zFH (zAs tbl):=hk (by kernel_rfl)
theorem zJD:CKp "all_bars" ["net","found","half","some"] zCt zCD:=by kernel_rfl
theorem zLq:fnOk ["net","some","wanted","number","contact"] ["net","some"] (zA3 zCU)=true:=by decide +kernel
theorem zLi:zEs (zAs tbl):=hk (by kernel_rfl)
theorem zLB:CKp "is_live" ["net","some","wanted","number","contact"] zCU zC3:=by kernel_rfl
theorem zI1:fnOk ["net"] ["net"] (zA3 zBN)=true:=by decide +kernel
theorem zHU:zEC (zAs tbl):=hk (by kernel_rfl)
theorem zIe:CKp "live_ways" ["net"] zBN zBY:=by kernel_rfl
theorem zI2:fnOk ["net"] ["net"] (zA3 zBO)=true:=by decide +kernel
theorem zHV:zED (zAs tbl):=hk (by kernel_rfl)
theorem zIf:CKp "live_bars" ["net"] zBO zBZ:=by kernel_rfl
theorem zFU:fnOk ["_law_script","_law_k"] ["_law_script","_law_k"] (zA3 zB7)=true:=by decide +kernel
theorem zFQ:zBs (zAs tbl):=hk (by kernel_rfl)
theorem zFX:CKp "_law_cell_at" ["_law_script","_law_k"] zB7 zBb:=by kernel_rfl
theorem zI3:fnOk ["_law_script","_law_k","_law_cell"] ["_law_script","_law_k"] (zA3 zBP)=true:=by decide +kernel
theorem zHW:zD7 (zAs tbl):=hk (by kernel_rfl)
theorem zIg:CKp "_law_state" ["_law_script","_law_k","_law_cell"] zBP zC0:=by kernel_rfl
theorem zJl:fnOk ["_law_state_here","_law_many","_law_found","_law_mixed"] ["_law_state_here","_law_many"] (zA3 zCn)=true:=by decide +kernel
theorem zJc:zC6 (zAs tbl):=hk (by kernel_rfl)
theorem zJx:CKp "_law_take" ["_law_state_here","_law_many","_law_found","_law_mixed"] zCn zCy:=by kernel_rfl
theorem zJo:fnOk ["_law_state_here","_law_places","_law_row","_law_one","_law_other"] ["_law_state_here","_law_places"] (zA3 zCq)=true:=by decide +kernel
theorem zJf:zCJ (zAs tbl):=hk (by kernel_rfl)
theorem zJA:CKp "_law_ends" ["_law_state_here","_law_places","_law_row","_law_one","_law_other"] zCq zCA:=by kernel_rfl
theorem zLp:fnOk ["_law_state_here","_law_most_switches","_law_most_places","_law_most_contacts","_law_switches","_law_places","_law_rows","_law_row","_law_one","_law_other","_law_turn","_law_mixed","_law_contact"] ["_law_state_here","_law_most_switches","_law_most_places","_law_most_contacts"] (zA3 zCT)=true:=by decide +kernel
theorem zLh:zEr (zAs tbl):=hk (by kernel_rfl)
theorem zLA:CKp "_law_net" ["_law_state_here","_law_most_switches","_law_most_places","_law_most_contacts","_law_switches","_law_places","_law_rows","_law_row","_law_one","_law_other","_law_turn","_law_mixed","_law_contact"] zCT zCz:=by kernel_rfl
theorem zI5:fnOk ["_law_net_here","_law_found","_law_fresh","_law_gone","_law_numbers","_law_k","_law_row"] ["_law_net_here"] (zA3 zBR)=true:=by decide +kernel
theorem zHY:zD8 (zAs tbl):=hk (by kernel_rfl)
theorem zIi:CKp "_law_paths" ["_law_net_here","_law_found","_law_fresh","_law_gone","_law_numbers","_law_k","_law_row"] zBR zC2:=by kernel_rfl
theorem zGY:fnOk ["_law_one","_law_other"] ["_law_one","_law_other"] (zA3 zBu)=true:=by decide +kernel
theorem zGW:zCI (zAs tbl):=hk (by kernel_rfl)
theorem zH2:CKp "_law_within" ["_law_one","_law_other"] zBu zBC:=by kernel_rfl
theorem zI4:fnOk ["_law_net_here","_law_found","_law_lot","_law_side","_law_some"] ["_law_net_here"] (zA3 zBQ)=true:=by decide +kernel
theorem zHX:zEE (zAs tbl):=hk (by kernel_rfl)
theorem zIh:CKp "_law_shuts" ["_law_net_here","_law_found","_law_lot","_law_side","_law_some"] zBQ zC1:=by kernel_rfl
theorem zFn:fnOk ["_law_switches","_law_found","_law_number"] ["_law_switches"] (zA3 zAR)=true:=by decide +kernel
theorem zFj:zAK (zAs tbl):=hk (by kernel_rfl)
theorem zFt:CKp "_law_settings" ["_law_switches","_law_found","_law_number"] zAR zBr:=by kernel_rfl
theorem zI6:fnOk ["_law_net_here","_law_some","_law_setting"] ["_law_net_here","_law_some"] (zA3 zBS)=true:=by decide +kernel
theorem zHZ:zD9 (zAs tbl):=hk (by kernel_rfl)
theorem zIj:CKp "_law_alive" ["_law_net_here","_law_some","_law_setting"] zBS zAZ:=by kernel_rfl
theorem zJn:fnOk ["_law_net_here","_law_some","_law_setting"] ["_law_net_here","_law_some"] (zA3 zCp)=true:=by decide +kernel
theorem zJe:zDE (zAs tbl):=hk (by kernel_rfl)
theorem zJz:CKp "_law_open" ["_law_net_here","_law_some","_law_setting"] zCp zBk:=by kernel_rfl
theorem zJm:fnOk ["_law_found","_law_due"] ["_law_found","_law_due"] (zA3 zCo)=true:=by decide +kernel
theorem zJd:zDD (zAs tbl):=hk (by kernel_rfl)
theorem zJy:CKp "_law_same" ["_law_found","_law_due"] zCo zDj:=by kernel_rfl
theorem zQd:fnOk ["_law_script","_law_k","_law_state_here","_law_net_here","_law_ways_due","_law_bars_due","_law_turn","_law_found","_law_other"] ["_law_script"] (zA3 zHE)=true:=by decide +kernel
theorem zUA:zIL (zAs tbl):=hk (by kernel_rfl)
theorem zQi:CKp "law" ["_law_script","_law_k","_law_state_here","_law_net_here","_law_ways_due","_law_bars_due","_law_turn","_law_found","_law_other"] zHE zEO:=by kernel_rfl
theorem zPd (ns:List Int) (h:ns.length≤63):∃ S',zAs tbl 100 "law" [.rol (ns.map D.int)] []=.ok (.bl true) S':=zWX zUA ⟨⟨zHW,zFQ,zJc,zJf,zLh⟩,⟨zLj,zLg,zJh⟩,⟨zDl,zNh,zI0,zLf,zFR,zNi,zJi,zPv,zFP,zJg⟩,⟨zHX,zGW⟩,zHY,zJd,zFj,zLi,zHU,zHV,zHZ,zJe⟩ 87 ns
def DF (K:W.Frag) (n:Str) (st:Stmt):Prop:=∃ (f:Addr) (od an:Option Addr) (sl:Array (Option Value)) (oc kV dc pm cd ct:Value),W.nsIn K mainGlobals n=some (some (.ref f))∧K.lookup f=some ⟨oc,od,.func (W.fnOf n n (zCF st) (zAJ st) (zA3 st) .none kV dc pm an cd ct),sl⟩∧W.codeIn K cd n=true∧W.keepIn K (.ref f)=true
theorem mkDF {K:W.Frag}{n:Str}{st:Stmt}{f:Addr}{od an:Option Addr}{sl:Array (Option Value)}{oc kV dc pm cd ct:Value} (a:W.nsIn K mainGlobals n=some (some (.ref f))) (l:K.lookup f=some ⟨oc,od,.func (W.fnOf n n (zCF st) (zAJ st) (zA3 st) .none kV dc pm an cd ct),sl⟩) (c:W.codeIn K cd n=true) (k:W.keepIn K (.ref f)=true):DF K n st:=⟨f,od,an,sl,oc,kV,dc,pm,cd,ct,a,l,c,k⟩
theorem DF.in {K:W.Frag}{h:Heap}{mg:Str→Option Value}{n:Str}{st:Stmt} (d:DF K n st) (X:K.In h) (G:h.Ns mainGlobals mg):∃ (f:Addr) (kV dc pm:Value) (an:Option Addr) (cd ct:Value),mg n=some (.ref f)∧Fun K n n st f (W.fnOf n n (zCF st) (zAJ st) (zA3 st) .none kV dc pm an cd ct):=by
 obtain ⟨f,od,an,sl,oc,kV,dc,pm,cd,ct,a,l,c,k⟩:=d
 exact ⟨f,kV,dc,pm,an,cd,ct,W.mg_of X G a,zUE l c k⟩
noncomputable def ZN (K:W.Frag):List Str→Prop
 | []=>True
 | x::r=>W.nsIn K mainGlobals x=some none∧ZN K r
theorem ZN.none {K:W.Frag}{h:Heap}{mg:Str→Option Value} (X:K.In h) (G:h.Ns mainGlobals mg):∀ {l:List Str},ZN K l→zHl mg l
 | [],_=>True.intro
 | _::_,z=>⟨W.mg_none_of X G z.1,z.2.none X G⟩
def BP (st:Stmt) (n:Str) (ps:List Str) (kV doc pm:Value) (an:Option Addr) (cdv ct:Value) (us:List Value):Prop:=bindArgs (W.fnOf n n (zCF st) (zAJ st) (zA3 st) .none kV doc pm an cdv ct) ⟨us,[]⟩=pure (ps.zip us)
def BF (st:Stmt) (n:Str) (ps:List Str):Prop:=∀ (kV doc pm:Value) (an:Option Addr) (cdv ct:Value) (us:List Value),us.length=ps.length→BP st n ps kV doc pm an cdv ct us
theorem dIn {K:W.Frag}{h:Heap}{mg:Str→Option Value}{ar:Str→Option Nat}{x:Str}{st:Stmt}{N ps:List Str}{fuel np nN:Nat}{b:CLL→CS} (d:DF K x st) (X:K.In h) (G:h.Ns mainGlobals mg) (hb:BF st x ps) (hs:fnOk N ps (zA3 st)=true)
  (hc:(fun cl:CLL=>cSts ar cl fuel ⟨N,(zA3 st).names,some x⟩ (zAJ st))=fun cl=>some (b cl)) (h1:ps.length=np:=by rfl) (h2:N.length=nN:=by rfl):zJT K mg ar x (np,nN,b):=by
 obtain ⟨_,_,_,_,_,_,_,m,F⟩:=d.in X G
 exact zUP F m (F.binds (ps:=ps) hb) hs hc h1 h2
theorem usC {n:Nat}:∀ us:List Value,us.length=n+1→∃ a r,us=a::r∧r.length=n
 | a::r,h=>⟨a,r,rfl,Nat.succ.inj h⟩
theorem us0 {P:List Value→Prop} (h:P []) (us:List Value) (hl:us.length=0):P us:=by
 rw [List.eq_nil_of_length_eq_zero hl]; exact h
theorem us1 {P:List Value→Prop} (h:∀ a0:Value,P [a0]) (us:List Value) (hl:us.length=1):P us:=by
 obtain ⟨a,r,rfl,hq⟩:=usC us hl
 exact us0 (P:=fun r=>P (a::r)) (h a) r hq
theorem us2 {P:List Value→Prop} (h:∀ a0 a1:Value,P [a0,a1]) (us:List Value) (hl:us.length=2):P us:=by
 obtain ⟨a,r,rfl,hq⟩:=usC us hl
 exact us1 (P:=fun r=>P (a::r)) (h a) r hq
theorem us3 {P:List Value→Prop} (h:∀ a0 a1 a2:Value,P [a0,a1,a2]) (us:List Value) (hl:us.length=3):P us:=by
 obtain ⟨a,r,rfl,hq⟩:=usC us hl
 exact us2 (P:=fun r=>P (a::r)) (h a) r hq
theorem us4 {P:List Value→Prop} (h:∀ a0 a1 a2 a3:Value,P [a0,a1,a2,a3]) (us:List Value) (hl:us.length=4):P us:=by
 obtain ⟨a,r,rfl,hq⟩:=usC us hl
 exact us3 (P:=fun r=>P (a::r)) (h a) r hq
theorem zJP:BF zCr "is_whole" ["thing"]:=fun kV doc pm an cdv ct=>us1 (P:=BP zCr "is_whole" ["thing"] kV doc pm an cdv ct) (fun _=>rfl)
theorem zFZ:BF zB6 "places_from" ["start","contacts"]:=fun kV doc pm an cdv ct=>us2 (P:=BP zB6 "places_from" ["start","contacts"] kV doc pm an cdv ct) (fun _ _=>rfl)
theorem zPO:BF zET "joins" ["contacts"]:=fun kV doc pm an cdv ct=>us1 (P:=BP zET "joins" ["contacts"] kV doc pm an cdv ct) (fun _=>rfl)
theorem zIH:BF zBT "is_choice" ["net","thing"]:=fun kV doc pm an cdv ct=>us2 (P:=BP zBT "is_choice" ["net","thing"] kV doc pm an cdv ct) (fun _ _=>rfl)
theorem zLH:BF zCR "without" ["some","number"]:=fun kV doc pm an cdv ct=>us2 (P:=BP zCR "without" ["some","number"] kV doc pm an cdv ct) (fun _ _=>rfl)
theorem zG1:BF zB8 "join_beside" ["net","some"]:=fun kV doc pm an cdv ct=>us2 (P:=BP zB8 "join_beside" ["net","some"] kV doc pm an cdv ct) (fun _ _=>rfl)
theorem zO9:BF zDL "is_bar" ["net","thing"]:=fun kV doc pm an cdv ct=>us2 (P:=BP zDL "is_bar" ["net","thing"] kV doc pm an cdv ct) (fun _ _=>rfl)
theorem zLL:BF zCV "far_end" ["contact","place"]:=fun kV doc pm an cdv ct=>us2 (P:=BP zCV "far_end" ["contact","place"] kV doc pm an cdv ct) (fun _ _=>rfl)
theorem zLI:BF zCS "ways_on" ["contacts","been","taken"]:=fun kV doc pm an cdv ct=>us3 (P:=BP zCS "ways_on" ["contacts","been","taken"] kV doc pm an cdv ct) (fun _ _ _=>rfl)
theorem zJQ:BF zCs "all_ways" ["net"]:=fun kV doc pm an cdv ct=>us1 (P:=BP zCs "all_ways" ["net"] kV doc pm an cdv ct) (fun _=>rfl)
theorem zDp:BF zAi "halves_with_start" ["places"]:=fun kV doc pm an cdv ct=>us1 (P:=BP zAi "halves_with_start" ["places"] kV doc pm an cdv ct) (fun _=>rfl)
theorem zO8:BF zDK "out_of" ["net","half"]:=fun kV doc pm an cdv ct=>us2 (P:=BP zDK "out_of" ["net","half"] kV doc pm an cdv ct) (fun _ _=>rfl)
theorem zJR:BF zCt "all_bars" ["net"]:=fun kV doc pm an cdv ct=>us1 (P:=BP zCt "all_bars" ["net"] kV doc pm an cdv ct) (fun _=>rfl)
theorem zLK:BF zCU "is_live" ["net","some"]:=fun kV doc pm an cdv ct=>us2 (P:=BP zCU "is_live" ["net","some"] kV doc pm an cdv ct) (fun _ _=>rfl)
theorem zIB:BF zBN "live_ways" ["net"]:=fun kV doc pm an cdv ct=>us1 (P:=BP zBN "live_ways" ["net"] kV doc pm an cdv ct) (fun _=>rfl)
theorem zIC:BF zBO "live_bars" ["net"]:=fun kV doc pm an cdv ct=>us1 (P:=BP zBO "live_bars" ["net"] kV doc pm an cdv ct) (fun _=>rfl)
theorem zG0:BF zB7 "_law_cell_at" ["_law_script","_law_k"]:=fun kV doc pm an cdv ct=>us2 (P:=BP zB7 "_law_cell_at" ["_law_script","_law_k"] kV doc pm an cdv ct) (fun _ _=>rfl)
theorem zID:BF zBP "_law_state" ["_law_script","_law_k"]:=fun kV doc pm an cdv ct=>us2 (P:=BP zBP "_law_state" ["_law_script","_law_k"] kV doc pm an cdv ct) (fun _ _=>rfl)
theorem zJL:BF zCn "_law_take" ["_law_state_here","_law_many"]:=fun kV doc pm an cdv ct=>us2 (P:=BP zCn "_law_take" ["_law_state_here","_law_many"] kV doc pm an cdv ct) (fun _ _=>rfl)
theorem zJO:BF zCq "_law_ends" ["_law_state_here","_law_places"]:=fun kV doc pm an cdv ct=>us2 (P:=BP zCq "_law_ends" ["_law_state_here","_law_places"] kV doc pm an cdv ct) (fun _ _=>rfl)
theorem zLJ:BF zCT "_law_net" ["_law_state_here","_law_most_switches","_law_most_places","_law_most_contacts"]:=fun kV doc pm an cdv ct=>us4 (P:=BP zCT "_law_net" ["_law_state_here","_law_most_switches","_law_most_places","_law_most_contacts"] kV doc pm an cdv ct) (fun _ _ _ _=>rfl)
theorem zIF:BF zBR "_law_paths" ["_law_net_here"]:=fun kV doc pm an cdv ct=>us1 (P:=BP zBR "_law_paths" ["_law_net_here"] kV doc pm an cdv ct) (fun _=>rfl)
theorem zHa:BF zBu "_law_within" ["_law_one","_law_other"]:=fun kV doc pm an cdv ct=>us2 (P:=BP zBu "_law_within" ["_law_one","_law_other"] kV doc pm an cdv ct) (fun _ _=>rfl)
theorem zIE:BF zBQ "_law_shuts" ["_law_net_here"]:=fun kV doc pm an cdv ct=>us1 (P:=BP zBQ "_law_shuts" ["_law_net_here"] kV doc pm an cdv ct) (fun _=>rfl)
theorem zFz:BF zAR "_law_settings" ["_law_switches"]:=fun kV doc pm an cdv ct=>us1 (P:=BP zAR "_law_settings" ["_law_switches"] kV doc pm an cdv ct) (fun _=>rfl)
theorem zIG:BF zBS "_law_alive" ["_law_net_here","_law_some"]:=fun kV doc pm an cdv ct=>us2 (P:=BP zBS "_law_alive" ["_law_net_here","_law_some"] kV doc pm an cdv ct) (fun _ _=>rfl)
theorem zJN:BF zCp "_law_open" ["_law_net_here","_law_some"]:=fun kV doc pm an cdv ct=>us2 (P:=BP zCp "_law_open" ["_law_net_here","_law_some"] kV doc pm an cdv ct) (fun _ _=>rfl)
theorem zJM:BF zCo "_law_same" ["_law_found","_law_due"]:=fun kV doc pm an cdv ct=>us2 (P:=BP zCo "_law_same" ["_law_found","_law_due"] kV doc pm an cdv ct) (fun _ _=>rfl)
theorem zV7:BF zHE "law" ["_law_script"]:=fun kV doc pm an cdv ct=>us1 (P:=BP zHE "law" ["_law_script"] kV doc pm an cdv ct) (fun _=>rfl)
theorem all_mk {l:W.OpenLaw}{w:World}{K:W.Frag}{h:Heap}{mg:Str→Option Value}{fa:Addr} (X:K.In h) (G:h.Ns mainGlobals mg) (hfa:mg "law"=some (.ref fa))
  (d1:DF K "is_whole" zCr) (d2:DF K "places_from" zB6) (d3:DF K "joins" zET) (d4:DF K "is_choice" zBT) (d5:DF K "without" zCR) (d6:DF K "join_beside" zB8) (d7:DF K "is_bar" zDL) (d8:DF K "far_end" zCV) (d9:DF K "ways_on" zCS) (d10:DF K "all_ways" zCs) (d11:DF K "halves_with_start" zAi) (d12:DF K "out_of" zDK) (d13:DF K "all_bars" zCt) (d14:DF K "is_live" zCU) (d15:DF K "live_ways" zBN) (d16:DF K "live_bars" zBO) (d17:DF K "_law_cell_at" zB7) (d18:DF K "_law_state" zBP) (d19:DF K "_law_take" zCn) (d20:DF K "_law_ends" zCq) (d21:DF K "_law_net" zCT) (d22:DF K "_law_paths" zBR) (d23:DF K "_law_within" zBu) (d24:DF K "_law_shuts" zBQ) (d25:DF K "_law_settings" zAR) (d26:DF K "_law_alive" zBS) (d27:DF K "_law_open" zCp) (d28:DF K "_law_same" zCo) (d29:DF K "law" zHE) (z:ZN K bltL) :
  ∃ fd:FuncData,(∀ (s:Shared) (v:Value),BindsTo s fd ⟨[v],[]⟩ [("_law_script",v)])∧∀ base:Heap,K.In base→base.Ns mainGlobals mg→FnOk l.prog w K mg base CX0 100 fa fd ["_law_script"] (spL K):=by
 obtain ⟨_,kV,dc,pm,an,cd,ct,m,F⟩:=d29.in X G
 have e:=hfa.symm.trans m
 cases e
 have A:zLR K mg (arT tbl) tbl:=And.intro (dIn d1 X G zJP zJp zJB) (And.intro (dIn d2 X G zFZ zFT zFW) (And.intro (dIn d3 X G zPO zPA zPG) (And.intro (dIn d4 X G zIH zI7 zIk) (And.intro (dIn d5 X G zLH zLn zLy) (And.intro (dIn d6 X G zG1 zFV zFY) (And.intro (dIn d7 X G zO9 zNq zNR) (And.intro (dIn d8 X G zLL zLr zLC) (And.intro (dIn d9 X G zLI zLo zLz) (And.intro (dIn d10 X G zJQ zJq zJC) (And.intro (dIn d11 X G zDp zDm zDn) (And.intro (dIn d12 X G zO8 zNp zNQ) (And.intro (dIn d13 X G zJR zJr zJD) (And.intro (dIn d14 X G zLK zLq zLB) (And.intro (dIn d15 X G zIB zI1 zIe) (And.intro (dIn d16 X G zIC zI2 zIf) (And.intro (dIn d17 X G zG0 zFU zFX) (And.intro (dIn d18 X G zID zI3 zIg) (And.intro (dIn d19 X G zJL zJl zJx) (And.intro (dIn d20 X G zJO zJo zJA) (And.intro (dIn d21 X G zLJ zLp zLA) (And.intro (dIn d22 X G zIF zI5 zIi) (And.intro (dIn d23 X G zHa zGY zH2) (And.intro (dIn d24 X G zIE zI4 zIh) (And.intro (dIn d25 X G zFz zFn zFt) (And.intro (dIn d26 X G zIG zI6 zIj) (And.intro (dIn d27 X G zJN zJn zJz) (And.intro (dIn d28 X G zJM zJm zJy) (And.intro (dIn d29 X G zV7 zQd zQi) (True.intro)))))))))))))))))))))))))))))
 refine ⟨W.fnOf "law" "law" (zCF zHE) (zAJ zHE) (zA3 zHE) .none kV dc pm an cd ct,fun s v=>.of_eq rfl,fun base _ _=>?_⟩
 exact zUi (L:=99) (fun x p e=>A.look x p e) ⟨fun y hy _=>(z.none X G).mem y hy⟩ (by kernel_rfl) F zQd rfl (fun cl=>congrFun zQi cl) (fun ns h=>zPd ns h)
end My
open PySem PySem.W PyProof.Rows
theorem PySem.W.Fast.te10524530874312170853:True:=trivial
set_option maxRecDepth 100000 in
set_option maxHeartbeats 0 in
theorem PySem.Challenge.cw_contactnets_k23_live_ways_and_bars_holds : PySem.Challenge.rw_contactnets_k23_live_ways_and_bars.Holds := by
 w_on; o_law; k_head; (case hw=>w_witness2)
 k_fill
 refine L2.walk_ev (L:=100) (l:=PySem.Challenge.rw_contactnets_k23_live_ways_and_bars) rfl rfl ⟨rfl,by decide,by decide,rfl⟩ (fun w h Y=>PySem.W.kIn_of Y) ?F
 case F =>
  intro w mg fa h KX G hmg
  refine' My.all_mk KX G hmg (My.mkDF ?a1 ?l1 ?c1 ?k1) (My.mkDF ?a2 ?l2 ?c2 ?k2) (My.mkDF ?a3 ?l3 ?c3 ?k3) (My.mkDF ?a4 ?l4 ?c4 ?k4) (My.mkDF ?a5 ?l5 ?c5 ?k5) (My.mkDF ?a6 ?l6 ?c6 ?k6) (My.mkDF ?a7 ?l7 ?c7 ?k7) (My.mkDF ?a8 ?l8 ?c8 ?k8) (My.mkDF ?a9 ?l9 ?c9 ?k9) (My.mkDF ?a10 ?l10 ?c10 ?k10) (My.mkDF ?a11 ?l11 ?c11 ?k11) (My.mkDF ?a12 ?l12 ?c12 ?k12) (My.mkDF ?a13 ?l13 ?c13 ?k13) (My.mkDF ?a14 ?l14 ?c14 ?k14) (My.mkDF ?a15 ?l15 ?c15 ?k15) (My.mkDF ?a16 ?l16 ?c16 ?k16) (My.mkDF ?a17 ?l17 ?c17 ?k17) (My.mkDF ?a18 ?l18 ?c18 ?k18) (My.mkDF ?a19 ?l19 ?c19 ?k19) (My.mkDF ?a20 ?l20 ?c20 ?k20) (My.mkDF ?a21 ?l21 ?c21 ?k21) (My.mkDF ?a22 ?l22 ?c22 ?k22) (My.mkDF ?a23 ?l23 ?c23 ?k23) (My.mkDF ?a24 ?l24 ?c24 ?k24) (My.mkDF ?a25 ?l25 ?c25 ?k25) (My.mkDF ?a26 ?l26 ?c26 ?k26) (My.mkDF ?a27 ?l27 ?c27 ?k27) (My.mkDF ?a28 ?l28 ?c28 ?k28) (My.mkDF ?a29 ?l29 ?c29 ?k29) ⟨?z1,?z2,?z3,?z4,?z5,?z6,?z7,?z8,?z9,?z10,?z11,?z12,?z13,?z14,?z15,?z16,?z17,?z18,?z19,?z20,True.intro⟩
  case a1=>k_is
  case l1=>k_is
  case c1=>k_is
  case k1=>k_is
  case a2=>k_is
  case l2=>k_is
  case c2=>k_is
  case k2=>k_is
  case a3=>k_is
  case l3=>k_is
  case c3=>k_is
  case k3=>k_is
  case a4=>k_is
  case l4=>k_is
  case c4=>k_is
  case k4=>k_is
  case a5=>k_is
  case l5=>k_is
  case c5=>k_is
  case k5=>k_is
  case a6=>k_is
  case l6=>k_is
  case c6=>k_is
  case k6=>k_is
  case a7=>k_is
  case l7=>k_is
  case c7=>k_is
  case k7=>k_is
  case a8=>k_is
  case l8=>k_is
  case c8=>k_is
  case k8=>k_is
  case a9=>k_is
  case l9=>k_is
  case c9=>k_is
  case k9=>k_is
  case a10=>k_is
  case l10=>k_is
  case c10=>k_is
  case k10=>k_is
  case a11=>k_is
  case l11=>k_is
  case c11=>k_is
  case k11=>k_is
  case a12=>k_is
  case l12=>k_is
  case c12=>k_is
  case k12=>k_is
  case a13=>k_is
  case l13=>k_is
  case c13=>k_is
  case k13=>k_is
  case a14=>k_is
  case l14=>k_is
  case c14=>k_is
  case k14=>k_is
  case a15=>k_is
  case l15=>k_is
  case c15=>k_is
  case k15=>k_is
  case a16=>k_is
  case l16=>k_is
  case c16=>k_is
  case k16=>k_is
  case a17=>k_is
  case l17=>k_is
  case c17=>k_is
  case k17=>k_is
  case a18=>k_is
  case l18=>k_is
  case c18=>k_is
  case k18=>k_is
  case a19=>k_is
  case l19=>k_is
  case c19=>k_is
  case k19=>k_is
  case a20=>k_is
  case l20=>k_is
  case c20=>k_is
  case k20=>k_is
  case a21=>k_is
  case l21=>k_is
  case c21=>k_is
  case k21=>k_is
  case a22=>k_is
  case l22=>k_is
  case c22=>k_is
  case k22=>k_is
  case a23=>k_is
  case l23=>k_is
  case c23=>k_is
  case k23=>k_is
  case a24=>k_is
  case l24=>k_is
  case c24=>k_is
  case k24=>k_is
  case a25=>k_is
  case l25=>k_is
  case c25=>k_is
  case k25=>k_is
  case a26=>k_is
  case l26=>k_is
  case c26=>k_is
  case k26=>k_is
  case a27=>k_is
  case l27=>k_is
  case c27=>k_is
  case k27=>k_is
  case a28=>k_is
  case l28=>k_is
  case c28=>k_is
  case k28=>k_is
  case a29=>k_is
  case l29=>k_is
  case c29=>k_is
  case k29=>k_is
  case z1=>k_is
  case z2=>k_is
  case z3=>k_is
  case z4=>k_is
  case z5=>k_is
  case z6=>k_is
  case z7=>k_is
  case z8=>k_is
  case z9=>k_is
  case z10=>k_is
  case z11=>k_is
  case z12=>k_is
  case z13=>k_is
  case z14=>k_is
  case z15=>k_is
  case z16=>k_is
  case z17=>k_is
  case z18=>k_is
  case z19=>k_is
  case z20=>k_is
